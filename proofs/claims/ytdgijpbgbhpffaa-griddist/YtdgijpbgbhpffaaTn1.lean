/-
  Contract of package grid's turns: the walk.
-/
import Derived.Test.YtdgijpbgbhpffaaTn0
namespace Go.Proofs.Ytdgijpbgbhpffaa
open Go.RowKit Go.Shelf
attribute [local go_sem] Oper.semAt_some

/-- What the two new rows and their variables are. -/
def TnTwo (m s : Nat) (w3 : World) (g h z6 z7 : Nat) (W : World) : Prop :=
  IsRow W g (m + 1) (fun _ => 0) ∧ IsRow W h (m + 1) (fun _ => 0) ∧ Boxed W z6 25 (.slice (some ⟨g, 0, none⟩) (m + 1) (m + 1)) ∧ Boxed W z7 25 (.slice (some ⟨h, 0, none⟩) (m + 1) (m + 1)) ∧ (g ≠ h ∧ z6 ≠ z7 ∧ s ≤ g ∧ s ≤ h ∧ s ≤ z6 ∧ s ≤ z7 ∧ g < s + 4 ∧ h < s + 4 ∧ z6 < s + 4 ∧ z7 < s + 4) ∧ Below s w3 W ∧ W.heap.size = s + 4
theorem four (w3 : World) (s : Nat) (hs : w3.heap.size = s) (o0 o1 o2 o3 : Obj) : let W := ((((w3.alloc o0).alloc o1).alloc o2).alloc o3).drew
    W.heap[s]? = some o0 ∧ W.heap[s + 1]? = some o1 ∧ W.heap[s + 1 + 1]? = some o2 ∧ W.heap[s + 1 + 1 + 1]? = some o3 ∧ Below s w3 W ∧ W.heap.size = s + 4 := by
  subst hs
  have e1 := World.alloc_heap_new w3 o0
  have e2 := World.alloc_heap_new (w3.alloc o0) o1
  have e3 := World.alloc_heap_new ((w3.alloc o0).alloc o1) o2
  have e4 := World.alloc_heap_new (((w3.alloc o0).alloc o1).alloc o2) o3
  simp only [World.size_alloc] at e2 e3 e4
  refine ⟨?_, ?_, ?_, e4, ((((Below.refl _ _).alloc (Nat.le_refl _) _).alloc (by simp) _).alloc (by simp; omega) _).alloc (by simp; omega) _ |>.drew, by simp⟩
  · exact (Below.heap_alloc _ _ _ (by simp <;> omega)).trans ((Below.heap_alloc _ _ _ (by simp <;> omega)).trans ((Below.heap_alloc _ _ _ (by simp)).trans e1))
  · exact (Below.heap_alloc _ _ _ (by simp <;> omega)).trans ((Below.heap_alloc _ _ _ (by simp)).trans e2)
  · exact (Below.heap_alloc _ _ _ (by simp)).trans e3
theorem row_zero {W : World} {g m : Nat} (h : W.heap[g]? = some (.cells (madeCells #[.int .i64 0] (m + 1)) 3)) : IsRow W g (m + 1) (fun _ => 0) :=
  ⟨_, h, size_madeCells _ _, fun i hi => by simp [madeCells, hi, Nat.mod_one]⟩

theorem tn_two {m s g h z6 z7 : Nat} {w3 : World} {o0 o1 o2 o3 : Obj} (hs : w3.heap.size = s)
    (eg : (g = s ∧ o0 = .cells (madeCells #[.int .i64 0] (m + 1)) 3) ∨ (g = s + 1 ∧ o1 = .cells (madeCells #[.int .i64 0] (m + 1)) 3) ∨ (g = s + 1 + 1 ∧ o2 = .cells (madeCells #[.int .i64 0] (m + 1)) 3) ∨ (g = s + 1 + 1 + 1 ∧ o3 = .cells (madeCells #[.int .i64 0] (m + 1)) 3))
    (eh : (h = s ∧ o0 = .cells (madeCells #[.int .i64 0] (m + 1)) 3) ∨ (h = s + 1 ∧ o1 = .cells (madeCells #[.int .i64 0] (m + 1)) 3) ∨ (h = s + 1 + 1 ∧ o2 = .cells (madeCells #[.int .i64 0] (m + 1)) 3) ∨ (h = s + 1 + 1 + 1 ∧ o3 = .cells (madeCells #[.int .i64 0] (m + 1)) 3))
    (e6 : (z6 = s ∧ o0 = .cells #[.slice (some ⟨g, 0, none⟩) (m + 1) (m + 1)] 25) ∨ (z6 = s + 1 ∧ o1 = .cells #[.slice (some ⟨g, 0, none⟩) (m + 1) (m + 1)] 25) ∨ (z6 = s + 1 + 1 ∧ o2 = .cells #[.slice (some ⟨g, 0, none⟩) (m + 1) (m + 1)] 25) ∨ (z6 = s + 1 + 1 + 1 ∧ o3 = .cells #[.slice (some ⟨g, 0, none⟩) (m + 1) (m + 1)] 25))
    (e7 : (z7 = s ∧ o0 = .cells #[.slice (some ⟨h, 0, none⟩) (m + 1) (m + 1)] 25) ∨ (z7 = s + 1 ∧ o1 = .cells #[.slice (some ⟨h, 0, none⟩) (m + 1) (m + 1)] 25) ∨ (z7 = s + 1 + 1 ∧ o2 = .cells #[.slice (some ⟨h, 0, none⟩) (m + 1) (m + 1)] 25) ∨ (z7 = s + 1 + 1 + 1 ∧ o3 = .cells #[.slice (some ⟨h, 0, none⟩) (m + 1) (m + 1)] 25))
    (hne : g ≠ h ∧ z6 ≠ z7) : TnTwo m s w3 g h z6 z7 ((((w3.alloc o0).alloc o1).alloc o2).alloc o3).drew := by
  obtain ⟨f0, f1, f2, f3, f4, f5⟩ := four w3 s hs o0 o1 o2 o3
  have key : ∀ {z : Nat} {o : Obj}, (z = s ∧ o0 = o) ∨ (z = s + 1 ∧ o1 = o) ∨ (z = s + 1 + 1 ∧ o2 = o) ∨ (z = s + 1 + 1 + 1 ∧ o3 = o) → (((((w3.alloc o0).alloc o1).alloc o2).alloc o3).drew).heap[z]? = some o ∧ s ≤ z ∧ z < s + 4 := by
    rintro z o (⟨rfl, rfl⟩ | ⟨rfl, rfl⟩ | ⟨rfl, rfl⟩ | ⟨rfl, rfl⟩)
    · exact ⟨f0, by omega, by omega⟩
    · exact ⟨f1, by omega, by omega⟩
    · exact ⟨f2, by omega, by omega⟩
    · exact ⟨f3, by omega, by omega⟩
  have kg := key eg
  have kh := key eh
  have k6 := key e6
  have k7 := key e7
  exact ⟨row_zero kg.1, row_zero kh.1, k6.1, k7.1, ⟨hne.1, hne.2, kg.2.1, kh.2.1, k6.2.1, k7.2.1, kg.2.2, kh.2.2, k6.2.2, k7.2.2⟩, f4, f5⟩

/-- What turns leaves. -/
def TurnT (a b : List Int) (n q T : Nat) (w : World) : Prop :=
  ∀ r, r < n → ∃ B', w.cell? ⟨T, r, none⟩ = some (.slice (some ⟨B', 0, none⟩) q q) ∧ WordsAt w B' q (turnB a b r)
def TurnMade (a b : List Int) (n q : Nat) (w : World) (e : Ending) (w' : World) : Prop :=
  ∃ T, e = .returned (.slice (some ⟨T, 0, none⟩) n n) ∧ TurnT a b n q T w' ∧ Below w.heap.size w w'

set_option maxRecDepth 100000 in
set_option maxHeartbeats 6400000 in
theorem turns_any (A B : Option Addr) (n m c d q : Nat) (a b : List Int) (w : World) (hn : a.length = n) (hm : b.length = m) (hb : n ≤ 1048576) (hb' : m ≤ 1048576) (hq : (m + 63) / 64 = q) (h1 : Row w A (iv a)) (h2 : Row w B (iv b)) :
    Calls Try.prog 33 #[.slice A n c, .slice B m d] w (TurnMade a b n q w) := by
  obtain ⟨i0, hi, hz0, hz1, hz2⟩ := info_parts Try.infoInt
  obtain ⟨j0, ji, jz0, jz1, jz2⟩ := info_parts Try.infoU64s
  obtain ⟨k0, ki, kz0, kz1, kz2⟩ := info_parts Try.infoU64
  have HN := Lib.hid hn
  have HM := Lib.hid hm
  have HQ := Lib.hid hq
  have hq1 : q ≤ 16384 := by omega
  clear hn hm hq
  refine (callsIn_wide (n := 3)).1 ?_
  refine callsIn_of_wp_marks Try.func33 rfl trivial ?_ rfl
  simp only [Try.ntmps33, List.size_toArray, List.length_cons, List.length_nil, Nat.reduceAdd, Nat.reduceSub, Array.replicate_succ, Array.replicate_zero, List.push_toArray, List.append_toArray, List.nil_append, List.cons_append]
  have hmk : ∀ w, (Instr.makeSlice 45 (.int .i64 (n : Int)) (.int .i64 (n : Int))).run Try.prog w = .ok (.slice (some ⟨w.heap.size, 0, none⟩) n n) (w.alloc (.cells (madeCells #[.slice none 0 0] n) 51)) := fun w =>
    run_make_row (P := Try.prog) 45 51 j0 (.slice none 0 0) Try.underlying45 ji jz0 jz1 rfl .i64 .i64 n (by rw [jz2]; omega) (by omega) w
  gi_wp2
  clear hmk
  have hmk : ∀ w, (Instr.makeSlice 25 (.int .i64 ((m : Int) + 1)) (.int .i64 ((m : Int) + 1))).run Try.prog w = .ok (.slice (some ⟨w.heap.size, 0, none⟩) (m + 1) (m + 1)) (w.alloc (.cells (madeCells #[.int .i64 0] (m + 1)) 3)) := fun w => by
    have h := run_make_row (P := Try.prog) 25 3 i0 (.int .i64 0) Try.underlying25 hi hz0 hz1 rfl .i64 .i64 (m + 1) (by rw [hz2]; omega) (by omega) w
    rw [Int.natCast_succ] at h
    exact h
  have b0 : Boxed (((w.alloc (Obj.cells #[Value.slice B m d] 25)).alloc (Obj.cells (madeCells #[Value.slice none 0 0] n) 51)).alloc (Obj.cells #[Value.slice (some { block := w.heap.size + 1, off := 0 }) n n] 45)) w.heap.size 25 (.slice B m d) := ((Boxed.new w _ _).alloc _).alloc _
  have rT : (((w.alloc (Obj.cells #[Value.slice B m d] 25)).alloc (Obj.cells (madeCells #[Value.slice none 0 0] n) 51)).alloc (Obj.cells #[Value.slice (some { block := w.heap.size + 1, off := 0 }) n n] 45)).rowIs (w.heap.size + 1) 51 n (fun _ => .slice none 0 0) := by
    have := World.rowIs_made (w.alloc (Obj.cells #[Value.slice B m d] 25)) (.slice none 0 0) n 51
    simp only [World.size_alloc] at this
    exact this.alloc _
  have bt : Boxed (((w.alloc (Obj.cells #[Value.slice B m d] 25)).alloc (Obj.cells (madeCells #[Value.slice none 0 0] n) 51)).alloc (Obj.cells #[Value.slice (some { block := w.heap.size + 1, off := 0 }) n n] 45)) (w.heap.size + 1 + 1) 45 (.slice (some ⟨w.heap.size + 1, 0, none⟩) n n) := by
    have := Boxed.new ((w.alloc (Obj.cells #[Value.slice B m d] 25)).alloc (Obj.cells (madeCells #[Value.slice none 0 0] n) 51)) 45 (.slice (some ⟨w.heap.size + 1, 0, none⟩) n n)
    simp only [World.size_alloc] at this
    exact this
  have hcb := b0.cell
  have hsz : (((w.alloc (Obj.cells #[Value.slice B m d] 25)).alloc (Obj.cells (madeCells #[Value.slice none 0 0] n) 51)).alloc (Obj.cells #[Value.slice (some { block := w.heap.size + 1, off := 0 }) n n] 45)).heap.size = w.heap.size + 3 := by simp
  have hB3 : Below w.heap.size w (((w.alloc (Obj.cells #[Value.slice B m d] 25)).alloc (Obj.cells (madeCells #[Value.slice none 0 0] n) 51)).alloc (Obj.cells #[Value.slice (some { block := w.heap.size + 1, off := 0 }) n n] 45)) := (((Below.refl _ w).alloc (Nat.le_refl _) _).alloc (by simp) _).alloc (by simp; omega) _
  generalize (((w.alloc (Obj.cells #[Value.slice B m d] 25)).alloc (Obj.cells (madeCells #[Value.slice none 0 0] n) 51)).alloc (Obj.cells #[Value.slice (some { block := w.heap.size + 1, off := 0 }) n n] 45)) = w3 at *
  refine wpIn_mono (Q := fun e a' w' => e = .normal ∧ ∃ g h z6 z7, a' = { tmps := #[.slice A n c, .slice B m d, undef, .pointer (some ⟨w.heap.size, 0, none⟩), .slice none 0 0, .pointer (some ⟨w.heap.size + 1 + 1, 0, none⟩), .pointer (some ⟨z6, 0, none⟩), .pointer (some ⟨z7, 0, none⟩), undef, undef, undef, .slice A n c, .int .i64 (n : Int), .slice (some ⟨w.heap.size + 1, 0, none⟩) n n, .slice B m d, .int .i64 (m : Int), .int .i64 ((m : Int) + 1), .slice (some ⟨g, 0, none⟩) (m + 1) (m + 1), .slice B m d, .int .i64 (m : Int), .int .i64 ((m : Int) + 1), .slice (some ⟨h, 0, none⟩) (m + 1) (m + 1), undef, undef, undef, undef, undef, undef, undef, undef, undef, undef, undef, undef, undef, undef, undef, undef, undef, undef, undef, undef, undef, undef, undef, undef, undef, undef, undef, undef, undef, undef, undef, undef, undef, undef, undef, undef, undef, undef, undef, undef, undef, undef, undef, undef, undef, undef, undef, undef, undef], defers := [] } ∧ TnTwo m (w.heap.size + 3) w3 g h z6 z7 w') (wpIn_wide.2 ?_) ?_
  · go_region
    all_goals (
      refine ⟨rfl, _, _, _, _, rfl, ?_⟩
      refine tn_two hsz ?_ ?_ ?_ ?_ (by omega)
      · first | exact .inl ⟨rfl, rfl⟩ | exact .inr (.inl ⟨rfl, rfl⟩) | exact .inr (.inr (.inl ⟨rfl, rfl⟩)) | exact .inr (.inr (.inr ⟨rfl, rfl⟩))
      · first | exact .inl ⟨rfl, rfl⟩ | exact .inr (.inl ⟨rfl, rfl⟩) | exact .inr (.inr (.inl ⟨rfl, rfl⟩)) | exact .inr (.inr (.inr ⟨rfl, rfl⟩))
      · first | exact .inl ⟨rfl, rfl⟩ | exact .inr (.inl ⟨rfl, rfl⟩) | exact .inr (.inr (.inl ⟨rfl, rfl⟩)) | exact .inr (.inr (.inr ⟨rfl, rfl⟩))
      · first | exact .inl ⟨rfl, rfl⟩ | exact .inr (.inl ⟨rfl, rfl⟩) | exact .inr (.inr (.inl ⟨rfl, rfl⟩)) | exact .inr (.inr (.inr ⟨rfl, rfl⟩)))
  · rintro e a' w4 ⟨rfl, g, h, z6, z7, rfl, r1, r2, b6, b7, hne, hB4, hs4⟩
    clear hmk hcb
    gi_wp2_with (refine ⟨trivial, ?_⟩; gi_at_call 29; refine (back_in _ _ _ _ _).mono ?_; rintro e w' ⟨rfl, rfl⟩)
    have Z : TnZ w (w.heap.size + 1) w.heap.size (w.heap.size + 1 + 1) z6 z7 (w.heap.size + 3 + 4) := ⟨Nat.le_refl _, by omega, by omega, by omega, by omega, by omega, by omega, by omega⟩
    have bN : Boxed (w4.alloc (.cells #[.slice A n c] 25)) (w.heap.size + 3 + 4) 25 (.slice A n c) := by
      have := Boxed.new w4 25 (.slice A n c)
      rw [hs4] at this
      exact this
    have hBl : Below w.heap.size w (w4.alloc (.cells #[.slice A n c] 25)) := (hB3.trans (hB4.mono (by omega))).alloc (by omega) _
    have k34 : ∀ k, k < w.heap.size + 3 → (w4.alloc (.cells #[.slice A n c] 25)).heap[k]? = w3.heap[k]? := fun k hk => (Below.heap_alloc _ _ _ (by omega)).trans (hB4.block k hk)
    have HI : TnI a b B n m d q (w.heap.size + 1) w.heap.size (w.heap.size + 1 + 1) z6 z7 (w.heap.size + 3 + 4) w [] (w4.alloc (.cells #[.slice A n c] 25)) :=
      ⟨g, h, _, ⟨(k34 _ (by omega)).trans b0, (k34 _ (by omega)).trans bt, b6.alloc _, b7.alloc _⟩, ⟨hne.1, by omega, by omega, by omega, by omega⟩, World.rowIs.alloc r1 _, World.rowIs.alloc r2 _, rT.of_block (k34 _ (by omega)), fun p hp => by (cases hp), hBl, by simp [hs4]⟩
    have hlz : (w4.alloc (.cells #[.slice A n c] 25)).heap.size = w.heap.size + 3 + 4 + 1 := by simp [hs4]
    clear k34 b0 bt b6 b7 r1 r2 rT hB3 hB4
    generalize w4.alloc (.cells #[.slice A n c] 25) = wl at *
    refine wpIn_rangeFunc_ownG rfl (by omega) (gf := 34) (lb := #[.pointer (some ⟨w.heap.size + 3 + 4, 0, none⟩)]) rfl trivial (enters_of Try.func34 (by kernel_rfl) rfl)
      (back_stops _ (by omega) (w.heap.size + 3 + 4) A n c a w wl HN.out hb h1 hBl bN) kpB_t (kpB_b (by omega) (by omega)) (Below.refl _ _) (fun _ => rfl)
      (TnI a b B n m d q (w.heap.size + 1) w.heap.size (w.heap.size + 1 + 1) z6 z7 (w.heap.size + 3 + 4) w) (fun _ _ _ => False) (tnI_own (by omega)) (fun _ _ _ _ _ hs _ _ => hs) HI
      (fun p => { tmps := #[.slice A n c, .slice B m d, undef, .pointer (some ⟨w.heap.size, 0, none⟩), .slice none 0 0, .pointer (some ⟨w.heap.size + 1 + 1, 0, none⟩), .pointer (some ⟨z6, 0, none⟩), .pointer (some ⟨z7, 0, none⟩), .int .i64 (p.1.1 : Int), .int .i64 p.1.2, undef, .slice A n c, .int .i64 (n : Int), .slice (some ⟨w.heap.size + 1, 0, none⟩) n n, .slice B m d, .int .i64 (m : Int), .int .i64 ((m : Int) + 1), .slice (some ⟨g, 0, none⟩) (m + 1) (m + 1), .slice B m d, .int .i64 (m : Int), .int .i64 ((m : Int) + 1), .slice (some ⟨h, 0, none⟩) (m + 1) (m + 1), .slice A n c, .func (.func 34) #[] #[.pointer (some ⟨w.heap.size + 3 + 4, 0, none⟩)], .int .i64 (p.1.1 : Int), .int .i64 p.1.2, undef, undef, undef, undef, undef, undef, undef, undef, undef, undef, undef, undef, undef, undef, undef, undef, undef, undef, undef, undef, undef, undef, undef, undef, undef, undef, undef, undef, undef, undef, undef, undef, undef, undef, undef, undef, undef, undef, undef, undef, undef, undef, undef, undef, undef], defers := [] }) ?assign ?body ?done ?stop
    case assign =>
      intro l p W K hK
      simp only [encI]
      gi_wp2
      exact hK
    case body =>
      rintro l pre ⟨⟨i, x⟩, hx⟩ W ⟨g', h', tv, bB, hz, q1, q2, q3, q4, q5, q6⟩ _
      have hi' : i < n := by rw [← HN.out]; exact (List.getElem?_eq_some_iff.1 hx).1
      have C := Lib.hid (fillBehind_any x B m d h' g' (m + 1) (m + 1) b _ _ w W HM.out hb' h2 q5 (by omega) (Ne.symm hz.1) q1 q2)
      have M := Lib.hid (fun W1 s1 s2 => tn_make (i := i) (x := x) (W1 := W1) Z bB hz q1 q2 q3 q4 q5 q6 s1 s2)
      have hmx : Try.prog.follows .mixedOrders = true := by kernel_rfl
      have s1 := bB.1.cell
      have s2 := bB.2.1.cell
      have s3 := bB.2.2.1.cell
      have s4 := bB.2.2.2.cell
      have SB := Lib.hid bB
      have SZ := Lib.hid hz
      have S1 := Lib.hid q1
      have S2 := Lib.hid q2
      have S3 := Lib.hid q3
      clear q1 q2 q3 q4 q5 q6 bB hz HI bN hBl h1 h2
      dsimp only
      gi_wp2_with (refine ⟨trivial, ?_⟩; gi_at_call 30; refine (CallsIn.inRound l (callsIn_wide.2 C.out)).mono ?_; rintro e W1 ⟨⟨v, rfl⟩, v1, v2⟩)
      have nh : w.heap.size + 1 + 1 < h' := SZ.out.2.2.1
      have B1 := SB.out.grown v2 (by omega) (by omega) (boxed_ne SB.out.2.2.1 S2.out (by decide)) (boxed_ne SB.out.2.2.2 S2.out (by decide))
      have M1 := Lib.hid (M.out W1 v1 v2)
      have P7 : Hid ((fun w' => w'.cell? ⟨w.heap.size, 0, none⟩ = some (.slice B m d) ∧ w'.cell? ⟨w.heap.size + 1 + 1, 0, none⟩ = some (.slice (some ⟨w.heap.size + 1, 0, none⟩) n n)) W1) := ⟨B1.1.cell, B1.2.1.cell⟩
      have P8 : Hid (∀ o, (fun w' => w'.cell? ⟨w.heap.size, 0, none⟩ = some (.slice B m d) ∧ w'.cell? ⟨w.heap.size + 1 + 1, 0, none⟩ = some (.slice (some ⟨w.heap.size + 1, 0, none⟩) n n)) (W1.alloc o)) := fun o => ⟨(B1.1.alloc o).cell, (B1.2.1.alloc o).cell⟩
      have rT := rowIs_grown S3.out v2 (fun e => by injection e; omega)
      have c0 : ∀ o, (W1.alloc o).cell? ⟨w.heap.size + 1, i, none⟩ = some (tv i) := fun o => (rT.alloc o).cell hi'
      have f0 : ∀ o, (W1.alloc o).frozen? ⟨w.heap.size + 1, i, none⟩ = false := fun o => (rT.alloc o).frozen i
      have hmk : ∀ w, (Instr.makeSlice 51 (.int .i64 (q : Int)) (.int .i64 (q : Int))).run Try.prog w = .ok (.slice (some ⟨w.heap.size, 0, none⟩) q q) (w.alloc (.cells (madeCells #[.int .u64 0] q) 50)) := fun w =>
        run_make_row (P := Try.prog) 51 50 k0 (.int .u64 0) Try.underlying51 ki kz0 kz1 rfl .i64 .i64 q (by rw [kz2]; omega) (by omega) w
      have em : IntKind.i64.wrap ((m : Int) + 63) = (m : Int) + 63 := IntWalk.i64_in _ (by omega)
      have eq : IntKind.i64.wrap (((m : Int) + 63).tdiv 64) = (q : Int) := by have := HQ.out; rw [Int.tdiv_eq_ediv_of_nonneg (by omega), IntWalk.i64_in _ (by omega)]; omega
      clear s1 s2 s3 s4 v1 v2 B1 rT C M SB S1 S2 S3
      refine region_held (fun w' => w'.cell? ⟨w.heap.size, 0, none⟩ = some (.slice B m d) ∧ w'.cell? ⟨w.heap.size + 1 + 1, 0, none⟩ = some (.slice (some ⟨w.heap.size + 1, 0, none⟩) n n)) (by kernel_rfl) (fun ⟨_, _, h⟩ => h) hmx ?_
      refine wpAnyH_take (i := 0) (v := ?v1) rfl (by kernel_rfl) (by kernel_rfl) (by kernel_rfl) (fun _ _ _ h => False.elim h) (.inl ⟨by rfl, ?y1⟩) P7.out ?_
      case y1 =>
        rintro w' ⟨t1, t2⟩
        go_simp
        try simp only [em, eq]
        try rw [if_pos (by omega)]
        try simp only [Int.toNat_natCast]
        first | done | with_reducible rfl
      refine wpAnyH_take (i := 1) (v := ?v2) rfl (by kernel_rfl) (by kernel_rfl) (by kernel_rfl) (fun _ _ _ h => False.elim h) (.inl ⟨by rfl, ?y2⟩) P7.out ?_
      case y2 =>
        rintro w' ⟨t1, t2⟩
        go_simp
        try simp only [em, eq]
        try rw [if_pos (by omega)]
        try simp only [Int.toNat_natCast]
        first | done | with_reducible rfl
      refine wpAnyH_take (i := 2) (v := ?v3) rfl (by kernel_rfl) (by kernel_rfl) (by kernel_rfl) (fun _ _ _ h => False.elim h) (.inl ⟨by rfl, ?y3⟩) P7.out ?_
      case y3 =>
        rintro w' ⟨t1, t2⟩
        go_simp
        try simp only [em, eq]
        try rw [if_pos (by omega)]
        try simp only [Int.toNat_natCast]
        first | done | with_reducible rfl
      refine wpAnyH_take (i := 3) (v := ?v4) rfl (by kernel_rfl) (by kernel_rfl) (by kernel_rfl) (fun _ _ _ h => False.elim h) (.inl ⟨by rfl, ?y4⟩) P7.out ?_
      case y4 =>
        rintro w' ⟨t1, t2⟩
        go_simp
        try simp only [em, eq]
        try rw [if_pos (by omega)]
        try simp only [Int.toNat_natCast]
        first | done | with_reducible rfl
      refine wpAnyH_take (i := 4) (v := ?v5) rfl (by kernel_rfl) (by kernel_rfl) (by kernel_rfl) (fun _ _ _ h => False.elim h) (.inl ⟨by rfl, ?y5⟩) P7.out ?_
      case y5 =>
        rintro w' ⟨t1, t2⟩
        go_simp
        try simp only [em, eq]
        try rw [if_pos (by omega)]
        try simp only [Int.toNat_natCast]
        first | done | with_reducible rfl
      refine wpAnyH_take (i := 5) (v := ?v6) rfl (by kernel_rfl) (by kernel_rfl) (by kernel_rfl) (fun _ _ _ h => False.elim h) (.inl ⟨by rfl, ?y6⟩) P7.out ?_
      case y6 =>
        rintro w' ⟨t1, t2⟩
        go_simp
        try simp only [em, eq]
        try rw [if_pos (by omega)]
        try simp only [Int.toNat_natCast]
        first | done | with_reducible rfl
      refine held_one (i := 6) (by kernel_rfl) rfl (by rfl) ?_
      unfold Oper.wp
      go_simp
      refine ⟨P8.out _, ?_⟩
      refine wpAnyH_take (i := 7) (v := ?v101) rfl (by kernel_rfl) (by kernel_rfl) (by kernel_rfl) (fun _ _ _ h => False.elim h) (.inl ⟨by rfl, ?y101⟩) (P8.out _) ?_
      case y101 =>
        rintro w' ⟨t1, t2⟩
        go_simp
        try simp only [em, eq]
        try rw [if_pos (by omega)]
        try simp only [Int.toNat_natCast]
        first | done | with_reducible rfl
      refine held_last (i := 8) (by kernel_rfl) (by kernel_rfl) rfl (by rfl) ?_
      unfold Oper.wp
      go_simp
      have P9 : Hid ((fun w' => w'.cell? ⟨w.heap.size, 0, none⟩ = some (.slice B m d) ∧ w'.cell? ⟨w.heap.size + 1 + 1, 0, none⟩ = some (.slice (some ⟨w.heap.size + 1, 0, none⟩) n n)) ((W1.alloc (.cells (madeCells #[.int .u64 0] q) 50)).setCell ⟨w.heap.size + 1, i, none⟩ (.slice (some ⟨W1.heap.size, 0, none⟩) q q))) := by
        obtain ⟨_, _, bb, _⟩ := M1.out
        exact ⟨bb.1.cell, bb.2.1.cell⟩
      have M2 := Lib.hid (TnM.drew M1.out)
      refine ⟨by first | exact P9.out | exact P8.out _, ?_⟩
      clear P7 P8 P9 c0 f0 hmk em eq M1
      generalize (World.drew (World.setCell _ _ _)) = W2 at *
      have s0 : W2.cell? ⟨w.heap.size, 0, none⟩ = some (.slice B m d) := by
        obtain ⟨_, _, bb, _⟩ := M2.out
        exact bb.1.cell
      gi_wp2
      gi_loopw [41] (fun j wr => ∃ k : Nat, k ≤ m ∧ j = .int .i64 (k : Int) ∧ TnM b B n m d q (w.heap.size + 1) w.heap.size (w.heap.size + 1 + 1) z6 z7 (w.heap.size + 3 + 4) g' h' i k x w pre W wr) (fun j _ => m - (intOf j).toNat)
      case atStart => exact ⟨0, Nat.zero_le _, rfl, M2.out⟩
      case round =>
        clear M2 s0
        obtain ⟨k, hk, rfl, hM⟩ := hrel
        by_cases hlt : k < m
        · have hkq : k / 64 < q := by rw [← HQ.out]; omega
          have RT := Lib.hid (fun hb => tn_bit Z SZ.out hM hi' hb hkq)
          have RF := Lib.hid (fun hb => tn_skip hM hb)
          have P1 : Hid (∃ X Y : Int, bitsOf b (stOf b pre).1 (fillB x b (stOf b pre).1 (stOf b pre).2.1) k = decide (Y ≤ X) ∧ wr.cell? ⟨z6, 0, none⟩ = some (.slice (some ⟨g', 0, none⟩) (m + 1) (m + 1)) ∧ wr.cell? ⟨z7, 0, none⟩ = some (.slice (some ⟨h', 0, none⟩) (m + 1) (m + 1)) ∧ wr.cell? ⟨g', k, none⟩ = some (.int .i64 X) ∧ wr.cell? ⟨h', k + 1, none⟩ = some (.int .i64 Y) ∧ wr.cell? ⟨w.heap.size + 1 + 1, 0, none⟩ = some (.slice (some ⟨w.heap.size + 1, 0, none⟩) n n)) := by
            obtain ⟨tw, B', bb, e1, e2, _⟩ := hM
            exact ⟨_, _, by unfold bitsOf; rw [decide_eq_true (by rw [HM.out]; exact hlt), Bool.true_and], bb.2.2.1.cell, bb.2.2.2.cell, World.rowIs.cell e1 (by omega), World.rowIs.cell e2 (by omega), bb.2.1.cell⟩
          obtain ⟨X, Y, HBt, p1, p2, p3, p4, p5⟩ := P1.out
          have HB := Lib.hid HBt
          have ek : IntKind.i64.wrap ((k : Int) + 1) = ((k + 1 : Nat) : Int) := by rw [IntWalk.i64_in _ (by omega)]; rfl
          have P2 : Hid ((fun w' => w'.cell? ⟨z6, 0, none⟩ = some (.slice (some ⟨g', 0, none⟩) (m + 1) (m + 1)) ∧ w'.cell? ⟨z7, 0, none⟩ = some (.slice (some ⟨h', 0, none⟩) (m + 1) (m + 1)) ∧ w'.cell? ⟨g', k, none⟩ = some (.int .i64 X) ∧ w'.cell? ⟨h', k + 1, none⟩ = some (.int .i64 Y)) wr) := ⟨p1, p2, p3, p4⟩
          clear P1 hM HBt p1 p2 p3 p4
          rw [HB.out] at RT RF
          by_cases hge : Y ≤ X
          · rw [decide_eq_true hge] at RT RF
            obtain ⟨B', u, u1, u2, u3, u4, u5, u6⟩ := RT.out rfl
            have U := Lib.hid u6
            clear RT RF u6
            gi_wp2
            refine region_held (fun w' => w'.cell? ⟨z6, 0, none⟩ = some (.slice (some ⟨g', 0, none⟩) (m + 1) (m + 1)) ∧ w'.cell? ⟨z7, 0, none⟩ = some (.slice (some ⟨h', 0, none⟩) (m + 1) (m + 1)) ∧ w'.cell? ⟨g', k, none⟩ = some (.int .i64 X) ∧ w'.cell? ⟨h', k + 1, none⟩ = some (.int .i64 Y)) (by kernel_rfl) (fun ⟨_, _, h⟩ => h) hmx ?_
            refine wpAnyH_take (i := 0) (v := ?v201) rfl (by kernel_rfl) (by kernel_rfl) (by kernel_rfl) (fun _ _ _ h => False.elim h) (.inl ⟨by rfl, ?y201⟩) P2.out ?_
            case y201 =>
              rintro w' ⟨t1, t2, t3, t4⟩
              go_simp
              try simp only [ek, hge]
              try rw [if_pos (by omega)]
              try simp only [Int.toNat_natCast]
              first | done | with_reducible rfl
            refine wpAnyH_take (i := 1) (v := ?v202) rfl (by kernel_rfl) (by kernel_rfl) (by kernel_rfl) (fun _ _ _ h => False.elim h) (.inl ⟨by rfl, ?y202⟩) P2.out ?_
            case y202 =>
              rintro w' ⟨t1, t2, t3, t4⟩
              go_simp
              try simp only [ek, hge]
              try rw [if_pos (by omega)]
              try simp only [Int.toNat_natCast]
              first | done | with_reducible rfl
            refine wpAnyH_take (i := 2) (v := ?v203) rfl (by kernel_rfl) (by kernel_rfl) (by kernel_rfl) (fun _ _ _ h => False.elim h) (.inl ⟨by rfl, ?y203⟩) P2.out ?_
            case y203 =>
              rintro w' ⟨t1, t2, t3, t4⟩
              go_simp
              try simp only [ek, hge]
              try rw [if_pos (by omega)]
              try simp only [Int.toNat_natCast]
              first | done | with_reducible rfl
            refine wpAnyH_take (i := 3) (v := ?v204) rfl (by kernel_rfl) (by kernel_rfl) (by kernel_rfl) (fun _ _ _ h => False.elim h) (.inl ⟨by rfl, ?y204⟩) P2.out ?_
            case y204 =>
              rintro w' ⟨t1, t2, t3, t4⟩
              go_simp
              try simp only [ek, hge]
              try rw [if_pos (by omega)]
              try simp only [Int.toNat_natCast]
              first | done | with_reducible rfl
            refine wpAnyH_take (i := 4) (v := ?v205) rfl (by kernel_rfl) (by kernel_rfl) (by kernel_rfl) (fun _ _ _ h => False.elim h) (.inl ⟨by rfl, ?y205⟩) P2.out ?_
            case y205 =>
              rintro w' ⟨t1, t2, t3, t4⟩
              go_simp
              try simp only [ek, hge]
              try rw [if_pos (by omega)]
              try simp only [Int.toNat_natCast]
              first | done | with_reducible rfl
            refine wpAnyH_take (i := 5) (v := ?v206) rfl (by kernel_rfl) (by kernel_rfl) (by kernel_rfl) (fun _ _ _ h => False.elim h) (.inl ⟨by rfl, ?y206⟩) P2.out ?_
            case y206 =>
              rintro w' ⟨t1, t2, t3, t4⟩
              go_simp
              try simp only [ek, hge]
              try rw [if_pos (by omega)]
              try simp only [Int.toNat_natCast]
              first | done | with_reducible rfl
            refine wpAnyH_take (i := 6) (v := ?v207) rfl (by kernel_rfl) (by kernel_rfl) (by kernel_rfl) (fun _ _ _ h => False.elim h) (.inl ⟨by rfl, ?y207⟩) P2.out ?_
            case y207 =>
              rintro w' ⟨t1, t2, t3, t4⟩
              go_simp
              try simp only [ek, hge]
              try rw [if_pos (by omega)]
              try simp only [Int.toNat_natCast]
              first | done | with_reducible rfl
            refine wpAnyH_take (i := 7) (v := ?v208) rfl (by kernel_rfl) (by kernel_rfl) (by kernel_rfl) (fun _ _ _ h => False.elim h) (.inl ⟨by rfl, ?y208⟩) P2.out ?_
            case y208 =>
              rintro w' ⟨t1, t2, t3, t4⟩
              go_simp
              try simp only [ek, hge]
              try rw [if_pos (by omega)]
              try simp only [Int.toNat_natCast]
              first | done | with_reducible rfl
            refine wpAnyH_take (i := 8) (v := ?v209) rfl (by kernel_rfl) (by kernel_rfl) (by kernel_rfl) (fun _ _ _ h => False.elim h) (.inl ⟨by rfl, ?y209⟩) P2.out ?_
            case y209 =>
              rintro w' ⟨t1, t2, t3, t4⟩
              go_simp
              try simp only [ek, hge]
              try rw [if_pos (by omega)]
              try simp only [Int.toNat_natCast]
              first | done | with_reducible rfl
            refine wpAnyH_take (i := 9) (v := ?v210) rfl (by kernel_rfl) (by kernel_rfl) (by kernel_rfl) (fun _ _ _ h => False.elim h) (.inl ⟨by rfl, ?y210⟩) P2.out ?_
            case y210 =>
              rintro w' ⟨t1, t2, t3, t4⟩
              go_simp
              try simp only [ek, hge]
              try rw [if_pos (by omega)]
              try simp only [Int.toNat_natCast]
              first | done | with_reducible rfl
            refine held_done (by kernel_rfl) ?_
            go_simp
            have P3 : Hid ((fun w' => w'.cell? ⟨w.heap.size + 1 + 1, 0, none⟩ = some (.slice (some ⟨w.heap.size + 1, 0, none⟩) n n) ∧ w'.cell? ⟨w.heap.size + 1, i, none⟩ = some (.slice (some ⟨B', 0, none⟩) q q)) wr.drew) := ⟨p5, u1⟩
            obtain ⟨kq, ekq⟩ : ∃ kq, k / 64 = kq := ⟨_, rfl⟩
            obtain ⟨kr, ekr⟩ : ∃ kr, k % 64 = kr := ⟨_, rfl⟩
            have hkr : kr < 64 := by omega
            have ed : IntKind.i64.wrap ((k : Int) / 64) = (kq : Int) := by rw [IntWalk.i64_in _ (by omega)]; omega
            have er : (k : Int).tmod 64 = (kr : Int) := by rw [Int.tmod_eq_emod_of_nonneg (by omega)]; omega
            rw [ekq] at u4 u5 hkq U
            rw [ekr] at U
            clear ekq ekr p5 u1
            have w4' : wr.drew.cell? ⟨B', kq, none⟩ = some (.int .u64 (u : Nat)) := u4
            have w5' : wr.drew.frozen? ⟨B', kq, none⟩ = false := u5
            gi_wp2
            refine region_held (fun w' => w'.cell? ⟨w.heap.size + 1 + 1, 0, none⟩ = some (.slice (some ⟨w.heap.size + 1, 0, none⟩) n n) ∧ w'.cell? ⟨w.heap.size + 1, i, none⟩ = some (.slice (some ⟨B', 0, none⟩) q q)) (by kernel_rfl) (fun ⟨_, _, h⟩ => h) hmx ?_
            refine wpAnyH_take (i := 0) (v := ?v301) rfl (by kernel_rfl) (by kernel_rfl) (by kernel_rfl) (fun _ _ _ h => False.elim h) (.inl ⟨by rfl, ?y301⟩) P3.out ?_
            case y301 =>
              rintro w' ⟨t1, t2⟩
              go_simp
              try simp only [ed, er]
              try rw [if_pos (by omega)]
              try simp only [Int.toNat_natCast]
              first | done | with_reducible rfl
            refine wpAnyH_take (i := 1) (v := ?v302) rfl (by kernel_rfl) (by kernel_rfl) (by kernel_rfl) (fun _ _ _ h => False.elim h) (.inl ⟨by rfl, ?y302⟩) P3.out ?_
            case y302 =>
              rintro w' ⟨t1, t2⟩
              go_simp
              try simp only [ed, er]
              try rw [if_pos (by omega)]
              try simp only [Int.toNat_natCast]
              first | done | with_reducible rfl
            refine wpAnyH_take (i := 2) (v := ?v303) rfl (by kernel_rfl) (by kernel_rfl) (by kernel_rfl) (fun _ _ _ h => False.elim h) (.inl ⟨by rfl, ?y303⟩) P3.out ?_
            case y303 =>
              rintro w' ⟨t1, t2⟩
              go_simp
              try simp only [ed, er]
              try rw [if_pos (by omega)]
              try simp only [Int.toNat_natCast]
              first | done | with_reducible rfl
            refine wpAnyH_take (i := 3) (v := ?v304) rfl (by kernel_rfl) (by kernel_rfl) (by kernel_rfl) (fun _ _ _ h => False.elim h) (.inl ⟨by rfl, ?y304⟩) P3.out ?_
            case y304 =>
              rintro w' ⟨t1, t2⟩
              go_simp
              try simp only [ed, er]
              try rw [if_pos (by omega)]
              try simp only [Int.toNat_natCast]
              first | done | with_reducible rfl
            refine wpAnyH_take (i := 4) (v := ?v305) rfl (by kernel_rfl) (by kernel_rfl) (by kernel_rfl) (fun _ _ _ h => False.elim h) (.inl ⟨by rfl, ?y305⟩) P3.out ?_
            case y305 =>
              rintro w' ⟨t1, t2⟩
              go_simp
              try simp only [ed, er]
              try rw [if_pos (by omega)]
              try simp only [Int.toNat_natCast]
              first | done | with_reducible rfl
            refine wpAnyH_take (i := 5) (v := ?v306) rfl (by kernel_rfl) (by kernel_rfl) (by kernel_rfl) (fun _ _ _ h => False.elim h) (.inl ⟨by rfl, ?y306⟩) P3.out ?_
            case y306 =>
              rintro w' ⟨t1, t2⟩
              go_simp
              try simp only [ed, er]
              try rw [if_pos (by omega)]
              try simp only [Int.toNat_natCast]
              first | done | with_reducible rfl
            refine wpAnyH_take (i := 6) (v := ?v307) rfl (by kernel_rfl) (by kernel_rfl) (by kernel_rfl) (fun _ _ _ h => False.elim h) (.inl ⟨by rfl, ?y307⟩) P3.out ?_
            case y307 =>
              rintro w' ⟨t1, t2⟩
              go_simp
              try simp only [ed, er]
              try rw [if_pos (by omega)]
              try simp only [Int.toNat_natCast]
              first | done | with_reducible rfl
            refine wpAnyH_take (i := 8) (v := ?v308) rfl (by kernel_rfl) (by kernel_rfl) (by kernel_rfl) (fun _ _ _ h => False.elim h) (.inl ⟨by rfl, ?y308⟩) P3.out ?_
            case y308 =>
              rintro w' ⟨t1, t2⟩
              go_simp
              try simp only [ed, er]
              try rw [if_pos (by omega)]
              try simp only [Int.toNat_natCast]
              first | done | with_reducible rfl
            refine wpAnyH_take (i := 9) (v := ?v309) rfl (by kernel_rfl) (by kernel_rfl) (by kernel_rfl) (fun _ _ _ h => False.elim h) (.inl ⟨by rfl, ?y309⟩) P3.out ?_
            case y309 =>
              rintro w' ⟨t1, t2⟩
              go_simp
              try simp only [ed, er]
              try rw [if_pos (by omega)]
              try simp only [Int.toNat_natCast]
              first | done | with_reducible rfl
            refine wpAnyH_take (i := 10) (v := ?v310) rfl (by kernel_rfl) (by kernel_rfl) (by kernel_rfl) (fun _ _ _ h => False.elim h) (.inl ⟨by rfl, ?y310⟩) P3.out ?_
            case y310 =>
              rintro w' ⟨t1, t2⟩
              go_simp
              try simp only [ed, er]
              try rw [if_pos (by omega)]
              try simp only [Int.toNat_natCast]
              first | done | with_reducible rfl
            refine held_one (i := 7) (by kernel_rfl) rfl (by rfl) ?_
            unfold Oper.wp
            go_simp
            refine ⟨P3.out, ?_⟩
            refine wpAnyH_take (i := 11) (v := ?v401) rfl (by kernel_rfl) (by kernel_rfl) (by kernel_rfl) (fun _ _ _ h => False.elim h) (.inl ⟨by rfl, ?y401⟩) P3.out ?_
            case y401 =>
              rintro w' ⟨t1, t2⟩
              go_simp
              try simp only [ed, er]
              try rw [if_pos (by omega)]
              try simp only [Int.toNat_natCast]
              first | done | with_reducible rfl
            refine wpAnyH_take (i := 12) (v := ?v402) rfl (by kernel_rfl) (by kernel_rfl) (by kernel_rfl) (fun _ _ _ h => False.elim h) (.inl ⟨by rfl, ?y402⟩) P3.out ?_
            case y402 =>
              rintro w' ⟨t1, t2⟩
              go_simp
              try simp only [ed, er]
              try rw [if_pos (by omega)]
              try simp only [Int.toNat_natCast]
              first | done | with_reducible rfl
            refine held_last (i := 13) (by kernel_rfl) (by kernel_rfl) rfl (by rfl) ?_
            unfold Oper.wp
            go_simp
            refine ⟨P3.out, ?_⟩
            clear P3 w4' w5'
            gi_wp2
            go_roundw
            case rel => exact ⟨k + 1, hlt, by go_num, (TnM.drew (U.out _ (or_bit u kr u3 hkr))).drew⟩
            case measure => simp [intOf]; omega
          · rw [decide_eq_false hge] at RT RF
            have R := Lib.hid ((RF.out rfl).drew)
            clear RT RF
            gi_wp2
            refine region_held (fun w' => w'.cell? ⟨z6, 0, none⟩ = some (.slice (some ⟨g', 0, none⟩) (m + 1) (m + 1)) ∧ w'.cell? ⟨z7, 0, none⟩ = some (.slice (some ⟨h', 0, none⟩) (m + 1) (m + 1)) ∧ w'.cell? ⟨g', k, none⟩ = some (.int .i64 X) ∧ w'.cell? ⟨h', k + 1, none⟩ = some (.int .i64 Y)) (by kernel_rfl) (fun ⟨_, _, h⟩ => h) hmx ?_
            refine wpAnyH_take (i := 0) (v := ?v211) rfl (by kernel_rfl) (by kernel_rfl) (by kernel_rfl) (fun _ _ _ h => False.elim h) (.inl ⟨by rfl, ?y211⟩) P2.out ?_
            case y211 =>
              rintro w' ⟨t1, t2, t3, t4⟩
              go_simp
              try simp only [ek, hge]
              try rw [if_pos (by omega)]
              try simp only [Int.toNat_natCast]
              first | done | with_reducible rfl
            refine wpAnyH_take (i := 1) (v := ?v212) rfl (by kernel_rfl) (by kernel_rfl) (by kernel_rfl) (fun _ _ _ h => False.elim h) (.inl ⟨by rfl, ?y212⟩) P2.out ?_
            case y212 =>
              rintro w' ⟨t1, t2, t3, t4⟩
              go_simp
              try simp only [ek, hge]
              try rw [if_pos (by omega)]
              try simp only [Int.toNat_natCast]
              first | done | with_reducible rfl
            refine wpAnyH_take (i := 2) (v := ?v213) rfl (by kernel_rfl) (by kernel_rfl) (by kernel_rfl) (fun _ _ _ h => False.elim h) (.inl ⟨by rfl, ?y213⟩) P2.out ?_
            case y213 =>
              rintro w' ⟨t1, t2, t3, t4⟩
              go_simp
              try simp only [ek, hge]
              try rw [if_pos (by omega)]
              try simp only [Int.toNat_natCast]
              first | done | with_reducible rfl
            refine wpAnyH_take (i := 3) (v := ?v214) rfl (by kernel_rfl) (by kernel_rfl) (by kernel_rfl) (fun _ _ _ h => False.elim h) (.inl ⟨by rfl, ?y214⟩) P2.out ?_
            case y214 =>
              rintro w' ⟨t1, t2, t3, t4⟩
              go_simp
              try simp only [ek, hge]
              try rw [if_pos (by omega)]
              try simp only [Int.toNat_natCast]
              first | done | with_reducible rfl
            refine wpAnyH_take (i := 4) (v := ?v215) rfl (by kernel_rfl) (by kernel_rfl) (by kernel_rfl) (fun _ _ _ h => False.elim h) (.inl ⟨by rfl, ?y215⟩) P2.out ?_
            case y215 =>
              rintro w' ⟨t1, t2, t3, t4⟩
              go_simp
              try simp only [ek, hge]
              try rw [if_pos (by omega)]
              try simp only [Int.toNat_natCast]
              first | done | with_reducible rfl
            refine wpAnyH_take (i := 5) (v := ?v216) rfl (by kernel_rfl) (by kernel_rfl) (by kernel_rfl) (fun _ _ _ h => False.elim h) (.inl ⟨by rfl, ?y216⟩) P2.out ?_
            case y216 =>
              rintro w' ⟨t1, t2, t3, t4⟩
              go_simp
              try simp only [ek, hge]
              try rw [if_pos (by omega)]
              try simp only [Int.toNat_natCast]
              first | done | with_reducible rfl
            refine wpAnyH_take (i := 6) (v := ?v217) rfl (by kernel_rfl) (by kernel_rfl) (by kernel_rfl) (fun _ _ _ h => False.elim h) (.inl ⟨by rfl, ?y217⟩) P2.out ?_
            case y217 =>
              rintro w' ⟨t1, t2, t3, t4⟩
              go_simp
              try simp only [ek, hge]
              try rw [if_pos (by omega)]
              try simp only [Int.toNat_natCast]
              first | done | with_reducible rfl
            refine wpAnyH_take (i := 7) (v := ?v218) rfl (by kernel_rfl) (by kernel_rfl) (by kernel_rfl) (fun _ _ _ h => False.elim h) (.inl ⟨by rfl, ?y218⟩) P2.out ?_
            case y218 =>
              rintro w' ⟨t1, t2, t3, t4⟩
              go_simp
              try simp only [ek, hge]
              try rw [if_pos (by omega)]
              try simp only [Int.toNat_natCast]
              first | done | with_reducible rfl
            refine wpAnyH_take (i := 8) (v := ?v219) rfl (by kernel_rfl) (by kernel_rfl) (by kernel_rfl) (fun _ _ _ h => False.elim h) (.inl ⟨by rfl, ?y219⟩) P2.out ?_
            case y219 =>
              rintro w' ⟨t1, t2, t3, t4⟩
              go_simp
              try simp only [ek, hge]
              try rw [if_pos (by omega)]
              try simp only [Int.toNat_natCast]
              first | done | with_reducible rfl
            refine wpAnyH_take (i := 9) (v := ?v220) rfl (by kernel_rfl) (by kernel_rfl) (by kernel_rfl) (fun _ _ _ h => False.elim h) (.inl ⟨by rfl, ?y220⟩) P2.out ?_
            case y220 =>
              rintro w' ⟨t1, t2, t3, t4⟩
              go_simp
              try simp only [ek, hge]
              try rw [if_pos (by omega)]
              try simp only [Int.toNat_natCast]
              first | done | with_reducible rfl
            refine held_done (by kernel_rfl) ?_
            go_simp
            gi_wp2
            go_roundw
            case rel => exact ⟨k + 1, hlt, by go_num, R.out⟩
            case measure => simp [intOf]; omega
        · obtain rfl : k = m := by omega
          have R := Lib.hid (tn_swap Z SZ.out HM.out hx hM)
          obtain ⟨tw, B', bb, _⟩ := hM
          have s3 := bb.2.2.1.cell
          have s4 := bb.2.2.2.cell
          have f3 := bb.2.2.1.frozen
          have f4 := bb.2.2.2.frozen
          have s5 := (bb.2.2.2.other (Ne.symm Z.2.2.2.2.2.1) (.slice (some ⟨h', 0, none⟩) (k + 1) (k + 1))).cell
          have f5 := (bb.2.2.2.other (Ne.symm Z.2.2.2.2.2.1) (.slice (some ⟨h', 0, none⟩) (k + 1) (k + 1))).frozen
          clear bb
          gi_wp2
          exact R.out
    case done =>
      rintro D ys W hD hS ⟨g', h', tv, bB, hz, q1, q2, q3, q4, q5, q6⟩ hK
      have t0 := bB.2.1.cell
      have hk : ∀ r, some D = some r → ∃ o : Obj, W.heap[r]? = some o ∧ o.isCells = false := fun r e => by cases e; exact ⟨_, hK, rfl⟩
      have HF : Hid (TurnMade a b n q w (.returned (.slice (some ⟨w.heap.size + 1, 0, none⟩) n n)) (W.putObj D (.deferred none))) := by
        refine ⟨_, rfl, fun r hr => ?_, q5.grown (grownBy_putObj' W D _) q5.size (fun r e => by cases e; omega)⟩
        obtain ⟨p, hp, rfl⟩ := back_mem hS r (by rw [HN.out]; exact hr)
        obtain ⟨B', e1, e2, e3⟩ := q4 p hp
        exact ⟨B', by rw [(rowIs_kept q3 (grownBy_putObj' W D _) hk).cell hr, e1], (e3.kept (grownBy_putObj' W D _) hk).congr fun j _ => turn_all (by rw [HN.out]; exact hb) hS _ (by rw [HN.out]; exact hr) j⟩
      clear q1 q2 q3 q4 q5 bB
      gi_wp2
      refine ⟨by simp, .inl ⟨_, _, rfl, run_takeDeferred hK, ?_⟩⟩
      refine ⟨_, results_tmp rfl _ _ _, ?_⟩
      exact HF.out
    case stop =>
      rintro D c pre W _ _ h _
      exact h.elim

end Go.Proofs.Ytdgijpbgbhpffaa
