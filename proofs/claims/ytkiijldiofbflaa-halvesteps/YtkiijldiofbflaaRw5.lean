/-
  Contract of package rows' Back.
-/
import Derived.Test.YtkiijldiofbflaaRw2
import Derived.Test.YtkiijldiofbflaaRw3
import Derived.Test.YtkiijldiofbflaaTwo
import Derived.BigRegion
namespace Go.Proofs.Ytkiijldiofbflaa
open Go.RowKit Go.Shelf
attribute [local go_sem] Oper.semAt_some

/-- Both rows. -/
abbrev Bk2 := (Nat → Int) × (Nat → Int)
def stepK (b : List Int) (s : Bk2) (p : Nat × Int) : Bk2 := (fillB p.2 b s.1 s.2, s.1)
def bk0 : Bk2 := (fun _ => 0, fun _ => 0)
def bkOf {a : List Int} (b : List Int) (pre : List (AtI a)) : Bk2 := (pre.map Subtype.val).foldl (stepK b) bk0
theorem bkOf_snoc {a : List Int} (b : List Int) (pre : List (AtI a)) (p : AtI a) : bkOf b (pre ++ [p]) = stepK b (bkOf b pre) p.1 := by
  unfold bkOf
  simp only [List.map_append, List.map_cons, List.map_nil, List.foldl_append, List.foldl_cons, List.foldl_nil]
theorem bk_upto {a b : List Int} (hn : a.length ≤ 1048576) : ∀ k, k ≤ a.length → (∀ c, c ≤ b.length → ((backs a k).foldl (stepK b) bk0).1 c = (lx a b (a.length - k) c : Nat)) ∧ ((backs a k).foldl (stepK b) bk0).2 b.length = 0 := by
  intro k
  induction k with
  | zero =>
    intro _
    refine ⟨fun c _ => ?_, rfl⟩
    rw [lx_end_left a b _ c (by omega)]
    rfl
  | succ k ih =>
    intro hk
    obtain ⟨ih1, ih2⟩ := ih (by omega)
    obtain ⟨j, hj⟩ : ∃ j, j + k + 1 = a.length := ⟨a.length - k - 1, by omega⟩
    have hjl : j < a.length := by omega
    have hx : a[j]? = some a[j] := List.getElem?_eq_getElem hjl
    generalize a[j] = x at *
    rw [backs_succ a hj hx, List.foldl_append, List.foldl_cons, List.foldl_nil]
    generalize (backs a k).foldl (stepK b) bk0 = s at *
    rw [show a.length - k = j + 1 by omega] at ih1
    rw [show a.length - (k + 1) = j by omega]
    refine ⟨fun c hc => fillB_row (F := s.2) hx hn ih1 ih2 c hc, ?_⟩
    show s.1 b.length = 0
    rw [ih1 _ (Nat.le_refl _), lx_end_right a b _ _ (Nat.le_refl _)]
    rfl
theorem bk_all {a b : List Int} {ys : List (AtI a)} (hn : a.length ≤ 1048576) (h : BackS a ys) (c : Nat) (hc : c ≤ b.length) : (bkOf b ys).1 c = (lx a b 0 c : Nat) := by
  unfold bkOf
  rw [h, (bk_upto hn a.length (Nat.le_refl _)).1 c hc, Nat.sub_self]

/-- The three variables that the loop uses. -/
def BkB (B : Option Addr) (m d z0 z5 z6 g h : Nat) (W : World) : Prop :=
  Boxed W z0 25 (.slice B m d) ∧ Boxed W z5 25 (.slice (some ⟨g, 0, none⟩) (m + 1) (m + 1)) ∧ Boxed W z6 25 (.slice (some ⟨h, 0, none⟩) (m + 1) (m + 1))
theorem BkB.grown {B : Option Addr} {m d z0 z5 z6 g h r : Nat} {W W' : World} (hB : BkB B m d z0 z5 z6 g h W) (hg : W.grownBy W' (some r)) (h1 : z0 ≠ r) (h3 : z5 ≠ r) (h4 : z6 ≠ r) : BkB B m d z0 z5 z6 g h W' :=
  ⟨hB.1.kept hg (fun e => h1 (by injection e)), hB.2.1.kept hg (fun e => h3 (by injection e)), hB.2.2.kept hg (fun e => h4 (by injection e))⟩
/-- What holds between two rounds. -/
def BkI (a b : List Int) (B : Option Addr) (m d z0 z5 z6 zs : Nat) (w : World) (pre : List (AtI a)) (W : World) : Prop :=
  ∃ g h : Nat, BkB B m d z0 z5 z6 g h W ∧ (g ≠ h ∧ z0 < g ∧ z0 < h ∧ g < zs ∧ h < zs) ∧ IsRow W g (m + 1) (bkOf b pre).1 ∧ IsRow W h (m + 1) (bkOf b pre).2 ∧ Below w.heap.size w W ∧ zs < W.heap.size
theorem bkI_own {a b : List Int} {B : Option Addr} {m d z0 z5 z6 zs : Nat} {w : World} {B0 : Nat} (hB : w.heap.size ≤ B0) : OwnFrom B0 (BkI a b B m d z0 z5 z6 zs w) := by
  rintro pre W W' row ⟨g, h, ⟨b1, b3, b4⟩, hn, h1, h2, h5, h6⟩ hg hr
  have hr' : ∀ r, row = some r → ∃ o : Obj, W.heap[r]? = some o ∧ o.isCells = false := fun r e => (hr r e).2
  exact ⟨g, h, ⟨boxed_keptO b1 hg hr', boxed_keptO b3 hg hr', boxed_keptO b4 hg hr'⟩, hn, rowIs_kept h1 hg hr', rowIs_kept h2 hg hr', h5.grown hg h5.size (fun r e => Nat.le_trans hB (hr r e).1), Nat.lt_of_lt_of_le h6 hg.size⟩
/-- Where the variables lie. -/
def BkZ (w : World) (z0 z5 z6 zs : Nat) : Prop := w.heap.size ≤ z0 ∧ z0 < z5 ∧ z0 < z6 ∧ z5 ≠ z6 ∧ z5 < zs ∧ z6 < zs
theorem bk_swap {a b : List Int} {B : Option Addr} {m d z0 z5 z6 zs g h i : Nat} {x : Int} {w W W1 : World} {pre : List (AtI a)} (Z : BkZ w z0 z5 z6 zs)
    (hB : BkB B m d z0 z5 z6 g h W) (hz : g ≠ h ∧ z0 < g ∧ z0 < h ∧ g < zs ∧ h < zs) (h1 : IsRow W g (m + 1) (bkOf b pre).1) (h2 : IsRow W h (m + 1) (bkOf b pre).2) (h5 : Below w.heap.size w W) (h6 : zs < W.heap.size) (hx : a[i]? = some x)
    (s1 : IsRow W1 h (m + 1) (fillB x b (bkOf b pre).1 (bkOf b pre).2)) (s2 : W.grownBy W1 (some h)) :
    BkB B m d z0 z5 z6 g h W1 ∧
    (KeepsFrom (zs + 1) W ((W1.setCell ⟨z5, 0, none⟩ (.slice (some ⟨h, 0, none⟩) (m + 1) (m + 1))).setCell ⟨z6, 0, none⟩ (.slice (some ⟨g, 0, none⟩) (m + 1) (m + 1))) ∧ KpB w.heap.size zs W ((W1.setCell ⟨z5, 0, none⟩ (.slice (some ⟨h, 0, none⟩) (m + 1) (m + 1))).setCell ⟨z6, 0, none⟩ (.slice (some ⟨g, 0, none⟩) (m + 1) (m + 1))) ∧
    BkI a b B m d z0 z5 z6 zs w (pre ++ [⟨(i, x), hx⟩]) ((W1.setCell ⟨z5, 0, none⟩ (.slice (some ⟨h, 0, none⟩) (m + 1) (m + 1))).setCell ⟨z6, 0, none⟩ (.slice (some ⟨g, 0, none⟩) (m + 1) (m + 1)))) := by
  obtain ⟨y1, y2, y3, y4, y5, y6⟩ := Z
  obtain ⟨g1, g2, g3, g4, g5⟩ := hz
  have n1 : z5 ≠ g := boxed_ne hB.2.1 h1 (by decide)
  have n2 : z5 ≠ h := boxed_ne hB.2.1 h2 (by decide)
  have n3 : z6 ≠ g := boxed_ne hB.2.2 h1 (by decide)
  have n4 : z6 ≠ h := boxed_ne hB.2.2 h2 (by decide)
  have hB1 := hB.grown s2 (by omega) n2 n4
  have hs := s2.size
  have k1 : KeepsFrom (zs + 1) W W1 := KeepsFrom.of_grownBy s2 (fun j e => by cases e; omega)
  have k2 : Below w.heap.size W W1 := (Below.refl _ _).grown s2 h5.size (fun r e => by cases e; omega)
  have k3 : Below w.heap.size w W1 := h5.grown s2 h5.size (fun r e => by cases e; omega)
  have r1 := rowIs_grown h1 s2 (fun e => g1 (by injection e))
  refine ⟨hB1, (k1.trans ((KeepsOthers.setCell _ _ _).from _)).trans ((KeepsOthers.setCell _ _ _).from _), ⟨(k2.setCell (by show _ ≤ z5; omega) _).setCell (by show _ ≤ z6; omega) _, (Below.heap_setCell _ _ _ _ (by show zs ≠ z6; omega)).trans ((Below.heap_setCell _ _ _ _ (by show zs ≠ z5; omega)).trans (s2.block zs h6 (fun e => by injection e; omega)))⟩, ?_⟩
  rw [BkI, bkOf_snoc]
  exact ⟨h, g, ⟨(hB1.1.other (by omega) _).other (by omega) _, (hB1.2.1.set _).other y4 _, (hB1.2.2.other (Ne.symm y4) _).set _⟩, ⟨Ne.symm g1, g3, g2, g5, g4⟩, (World.rowIs.setOther s1 (Ne.symm n2) _).setOther (Ne.symm n4) _, (World.rowIs.setOther r1 (Ne.symm n1) _).setOther (Ne.symm n3) _, (k3.setCell (by show _ ≤ z5; omega) _).setCell (by show _ ≤ z6; omega) _, by simp; omega⟩

set_option maxRecDepth 100000 in
set_option maxHeartbeats 6400000 in
theorem back_any (A B : Option Addr) (n m c d : Nat) (a b : List Int) (w : World) (hn : a.length = n) (hm : b.length = m) (hb : n ≤ 1048576) (hb' : m ≤ 1048576) (h1 : Row w A (iv a)) (h2 : Row w B (iv b)) :
    Calls Try.prog 29 #[.slice A n c, .slice B m d] w (MadeI (backL a b) w) := by
  obtain ⟨i0, hi, hz0, hz1, hz2⟩ := info_parts Try.infoInt
  have HN := Lib.hid hn
  have HM := Lib.hid hm
  clear hn hm
  refine (callsIn_wide (n := 3)).1 ?_
  refine callsIn_of_wp_marks Try.func29 rfl trivial ?_ rfl
  simp only [Try.ntmps29, List.size_toArray, List.length_cons, List.length_nil, Nat.reduceAdd, Nat.reduceSub, Array.replicate_succ, Array.replicate_zero, List.push_toArray, List.append_toArray, List.nil_append, List.cons_append]
  gi_wp2
  have hmk : ∀ w, (Instr.makeSlice 25 (.int .i64 ((m : Int) + 1)) (.int .i64 ((m : Int) + 1))).run Try.prog w = .ok (.slice (some ⟨w.heap.size, 0, none⟩) (m + 1) (m + 1)) (w.alloc (.cells (madeCells #[.int .i64 0] (m + 1)) 3)) := fun w => by
    have h := run_make_row (P := Try.prog) 25 3 i0 (.int .i64 0) Try.underlying25 hi hz0 hz1 rfl .i64 .i64 (m + 1) (by rw [hz2]; omega) (by omega) w
    rw [Int.natCast_succ] at h
    exact h
  have b0 : Boxed (w.alloc (Obj.cells #[Value.slice B m d] 25)) w.heap.size 25 (.slice B m d) := Boxed.new w _ _
  have hcb := b0.cell
  have hsz : (w.alloc (Obj.cells #[Value.slice B m d] 25)).heap.size = w.heap.size + 1 := by simp
  have hB3 : Below w.heap.size w (w.alloc (Obj.cells #[Value.slice B m d] 25)) := (Below.refl _ w).alloc (Nat.le_refl _) _
  generalize (w.alloc (Obj.cells #[Value.slice B m d] 25)) = w3 at *
  refine wpIn_mono (Q := fun e a' w' => e = .normal ∧ ∃ g h z6 z7, a' = { tmps := #[.slice A n c, .slice B m d, undef, .pointer (some ⟨w.heap.size, 0, none⟩), .slice none 0 0, .pointer (some ⟨z6, 0, none⟩), .pointer (some ⟨z7, 0, none⟩), undef, undef, .slice B m d, .int .i64 (m : Int), .int .i64 ((m : Int) + 1), .slice (some ⟨g, 0, none⟩) (m + 1) (m + 1), .slice B m d, .int .i64 (m : Int), .int .i64 ((m : Int) + 1), .slice (some ⟨h, 0, none⟩) (m + 1) (m + 1), undef, undef, undef, undef, undef, undef, undef, undef, undef, undef, undef, undef], defers := [] } ∧ TnTwo m (w.heap.size + 1) w3 g h z6 z7 w') (wpIn_wide.2 ?_) ?_
  · go_region
    all_goals (
      refine ⟨rfl, _, _, _, _, rfl, ?_⟩
      refine tn_two hsz ?_ ?_ ?_ ?_ (by omega)
      · first | exact .inl ⟨rfl, rfl⟩ | exact .inr (.inl ⟨rfl, rfl⟩) | exact .inr (.inr (.inl ⟨rfl, rfl⟩)) | exact .inr (.inr (.inr ⟨rfl, rfl⟩))
      · first | exact .inl ⟨rfl, rfl⟩ | exact .inr (.inl ⟨rfl, rfl⟩) | exact .inr (.inr (.inl ⟨rfl, rfl⟩)) | exact .inr (.inr (.inr ⟨rfl, rfl⟩))
      · first | exact .inl ⟨rfl, rfl⟩ | exact .inr (.inl ⟨rfl, rfl⟩) | exact .inr (.inr (.inl ⟨rfl, rfl⟩)) | exact .inr (.inr (.inr ⟨rfl, rfl⟩))
      · first | exact .inl ⟨rfl, rfl⟩ | exact .inr (.inl ⟨rfl, rfl⟩) | exact .inr (.inr (.inl ⟨rfl, rfl⟩)) | exact .inr (.inr (.inr ⟨rfl, rfl⟩)))
  · rintro e a' w4 ⟨rfl, g, h, z6, z7, rfl, r1, r2, b6, b7, hne, hB4, hs4⟩
    clear hmk hcb
    gi_wp2_with (refine ⟨trivial, ?_⟩; gi_at_call 34; refine (back_in _ _ _ _ _).mono ?_; rintro e w' ⟨rfl, rfl⟩)
    have Z : BkZ w w.heap.size z6 z7 (w.heap.size + 1 + 4) := ⟨Nat.le_refl _, by omega, by omega, by omega, by omega, by omega⟩
    have bN : Boxed (w4.alloc (.cells #[.slice A n c] 25)) (w.heap.size + 1 + 4) 25 (.slice A n c) := by
      have := Boxed.new w4 25 (.slice A n c)
      rw [hs4] at this
      exact this
    have hBl : Below w.heap.size w (w4.alloc (.cells #[.slice A n c] 25)) := (hB3.trans (hB4.mono (by omega))).alloc (by omega) _
    have k34 : ∀ k, k < w.heap.size + 1 → (w4.alloc (.cells #[.slice A n c] 25)).heap[k]? = w3.heap[k]? := fun k hk => (Below.heap_alloc _ _ _ (by omega)).trans (hB4.block k hk)
    have HI : BkI a b B m d w.heap.size z6 z7 (w.heap.size + 1 + 4) w [] (w4.alloc (.cells #[.slice A n c] 25)) :=
      ⟨g, h, ⟨(k34 _ (by omega)).trans b0, b6.alloc _, b7.alloc _⟩, ⟨hne.1, by omega, by omega, by omega, by omega⟩, World.rowIs.alloc r1 _, World.rowIs.alloc r2 _, hBl, by simp [hs4]⟩
    have hlz : (w4.alloc (.cells #[.slice A n c] 25)).heap.size = w.heap.size + 1 + 4 + 1 := by simp [hs4]
    clear k34 b0 b6 b7 r1 r2 hB3 hB4
    generalize w4.alloc (.cells #[.slice A n c] 25) = wl at *
    refine wpIn_rangeFunc_ownG rfl (by omega) (gf := 37) (lb := #[.pointer (some ⟨w.heap.size + 1 + 4, 0, none⟩)]) rfl trivial (enters_of Try.func37 (by kernel_rfl) rfl)
      (back_stops _ (by omega) (w.heap.size + 1 + 4) A n c a w wl HN.out hb h1 hBl bN) kpB_t (kpB_b (by omega) (by omega)) (Below.refl _ _) (fun _ => rfl)
      (BkI a b B m d w.heap.size z6 z7 (w.heap.size + 1 + 4) w) (fun _ _ _ => False) (bkI_own (by omega)) (fun _ _ _ _ _ hs _ _ => hs) HI
      (fun p => { tmps := #[.slice A n c, .slice B m d, undef, .pointer (some ⟨w.heap.size, 0, none⟩), .slice none 0 0, .pointer (some ⟨z6, 0, none⟩), .pointer (some ⟨z7, 0, none⟩), undef, .int .i64 p.1.2, .slice B m d, .int .i64 (m : Int), .int .i64 ((m : Int) + 1), .slice (some ⟨g, 0, none⟩) (m + 1) (m + 1), .slice B m d, .int .i64 (m : Int), .int .i64 ((m : Int) + 1), .slice (some ⟨h, 0, none⟩) (m + 1) (m + 1), .slice A n c, .func (.func 37) #[] #[.pointer (some ⟨w.heap.size + 1 + 4, 0, none⟩)], .int .i64 (p.1.1 : Int), .int .i64 p.1.2, undef, undef, undef, undef, undef, undef, undef, undef], defers := [] }) ?assign ?body ?done ?stop
    case assign =>
      intro l p W K hK
      simp only [encI]
      gi_wp2
      exact hK
    case body =>
      rintro l pre ⟨⟨i, x⟩, hx⟩ W ⟨g', h', bB, hz, q1, q2, q5, q6⟩ _
      have C := Lib.hid (fillBack_any x B m d h' g' (m + 1) (m + 1) b _ _ w W HM.out hb' h2 q5 (by omega) (Ne.symm hz.1) q1 q2)
      have M := Lib.hid (fun W1 s1 s2 => bk_swap (i := i) (x := x) (W1 := W1) Z bB hz q1 q2 q5 q6 hx s1 s2)
      have s1 := bB.1.cell
      have s3 := bB.2.1.cell
      have s4 := bB.2.2.cell
      clear q1 q2 q5 q6 bB hz HI bN hBl h1 h2
      dsimp only
      gi_wp2_with (refine ⟨trivial, ?_⟩; gi_at_call 35; refine (CallsIn.inRound l (callsIn_wide.2 C.out)).mono ?_; rintro e W1 ⟨⟨v, rfl⟩, v1, v2⟩; obtain ⟨bb, R0⟩ := M.out W1 v1 v2; have R := Lib.hid R0; have t3 := bb.2.1.cell; have t4 := bb.2.2.cell; have f3 := bb.2.1.frozen; have f4 := bb.2.2.frozen; have t5 := (bb.2.2.other (Ne.symm Z.2.2.2.1) (.slice (some ⟨h', 0, none⟩) (m + 1) (m + 1))).cell; have f5 := (bb.2.2.other (Ne.symm Z.2.2.2.1) (.slice (some ⟨h', 0, none⟩) (m + 1) (m + 1))).frozen; clear bb R0 M C v1 v2 s1 s3 s4)
      rw [hlz]
      exact R.out
    case done =>
      rintro D ys W hD hS ⟨g', h', bB, hz, q1, q2, q5, q6⟩ hK
      have t0 := bB.2.1.cell
      have hk : ∀ r, some D = some r → ∃ o : Obj, W.heap[r]? = some o ∧ o.isCells = false := fun r e => by cases e; exact ⟨_, hK, rfl⟩
      have HF : Hid (MadeI (backL a b) w (.returned (.slice (some ⟨g', 0, none⟩) (m + 1) (m + 1))) (W.putObj D (.deferred none))) := by
        refine made_isRow (rowIs_kept q1 (grownBy_putObj' W D _) hk) (by omega) hb' ?_ (q5.grown (grownBy_putObj' W D _) q5.size (fun r e => by cases e; omega))
        unfold backL
        rw [HM.out]
        exact rowL_congr fun c hc => (bk_all (by rw [HN.out]; exact hb) hS c (by rw [HM.out]; exact hc)).symm
      clear q1 q2 q5 bB
      gi_wp2
      refine ⟨by simp, .inl ⟨_, _, rfl, run_takeDeferred hK, ?_⟩⟩
      refine ⟨_, results_tmp rfl _ _ _, ?_⟩
      exact HF.out
    case stop =>
      rintro D c pre W _ _ h _
      exact h.elim

end Go.Proofs.Ytkiijldiofbflaa
