/-
  Contracts of package rows' Next, Front, Split.
-/
import Derived.Test.YtkiijldiofbflaaRwP
import Derived.Test.YtkiijldiofbflaaRw1
import Derived.Deep.DeepCutAuto
import Derived.Deep.RegionWith
namespace Go.Proofs.Ytkiijldiofbflaa
open Go.RowKit

theorem own_isRow {w : World} {B g m : Nat} {F : Nat → Int} (h : IsRow w g (m + 1) F) (hB : B ≤ g) (hm : m + 1 ≤ maxLen) : w.ownsRow B 3 1 (.slice (some ⟨g, 0, none⟩) (m + 1) (m + 1)) (m + 1) (iv (rowL m F)) := by
  obtain ⟨c, h1, h2, h3⟩ := h
  refine own_of_heap hB hm (by rw [iv_length, rowL_length]) ?_
  rw [h1]
  congr 2
  refine Array.ext_getElem? fun i => ?_
  rcases Nat.lt_or_ge i (m + 1) with g | g
  · rw [h3 i g]
    unfold iv
    rw [List.getElem?_toArray, List.getElem?_map, rowL_get (by omega)]
    rfl
  · rw [Array.getElem?_eq_none (by omega), List.getElem?_toArray, List.getElem?_eq_none (by rw [iv_length, rowL_length]; omega)]
theorem made_isRow {w w' : World} {g m : Nat} {F : Nat → Int} {l : List Int} (h : IsRow w' g (m + 1) F) (hB : w.heap.size ≤ g) (hm : m ≤ 1048576) (hl : l = rowL m F) (hb : Below w.heap.size w w') : MadeI l w (.returned (.slice (some ⟨g, 0, none⟩) (m + 1) (m + 1))) w' := by
  subst hl
  refine ⟨_, rfl, ?_, hb⟩
  rw [rowL_length]
  exact own_isRow h hB (by unfold maxLen; omega)

/-- Two rows: the last one that is done, and one to fill. -/
def FrRows (a b : List Int) (m i : Nat) (u v : Value) (w wr : World) : Prop :=
  ∃ (h g : Nat) (F G : Nat → Int), u = .slice (some ⟨h, 0, none⟩) (m + 1) (m + 1) ∧ v = .slice (some ⟨g, 0, none⟩) (m + 1) (m + 1) ∧ g ≠ h ∧ w.heap.size ≤ g ∧ w.heap.size ≤ h ∧ IsRow wr h (m + 1) G ∧ IsRow wr g (m + 1) F ∧ F 0 = 0 ∧ (∀ c, c ≤ m → G c = (px a b i c : Nat)) ∧ Below w.heap.size w wr
theorem fr_made (w : World) (m : Nat) : IsRow (w.alloc (.cells (madeCells #[.int .i64 0] (m + 1)) 3)) w.heap.size (m + 1) (fun _ => 0) := World.rowIs_made w _ _ _
theorem fr_two (a b : List Int) (m : Nat) (w : World) : let w2 := (w.drew.alloc (.cells (madeCells #[.int .i64 0] (m + 1)) 3)).alloc (.cells (madeCells #[.int .i64 0] (m + 1)) 3)
    FrRows a b m 0 (.slice (some ⟨w.heap.size, 0, none⟩) (m + 1) (m + 1)) (.slice (some ⟨w.heap.size + 1, 0, none⟩) (m + 1) (m + 1)) w w2 ∧ FrRows a b m 0 (.slice (some ⟨w.heap.size + 1, 0, none⟩) (m + 1) (m + 1)) (.slice (some ⟨w.heap.size, 0, none⟩) (m + 1) (m + 1)) w w2 := by
  have r1 := World.rowIs.alloc (fr_made w.drew m) (.cells (madeCells #[.int .i64 0] (m + 1)) 3)
  have r2 := fr_made (w.drew.alloc (.cells (madeCells #[.int .i64 0] (m + 1)) 3)) m
  have hB : Below w.heap.size w ((w.drew.alloc (.cells (madeCells #[.int .i64 0] (m + 1)) 3)).alloc (.cells (madeCells #[.int .i64 0] (m + 1)) 3)) := (((Below.refl _ w).drew).alloc (Nat.le_refl _) _).alloc (by simp) _
  have hz : ∀ c, c ≤ m → (fun _ : Nat => (0 : Int)) c = (px a b 0 c : Nat) := fun c _ => by rw [px_zero_left]; rfl
  simp only [World.size_alloc] at r2
  exact ⟨⟨_, _, _, _, rfl, rfl, by omega, by omega, by omega, r1, r2, rfl, hz, hB⟩, ⟨_, _, _, _, rfl, rfl, by omega, by omega, by omega, r2, r1, rfl, hz, hB⟩⟩

set_option maxRecDepth 100000 in
set_option maxHeartbeats 1600000 in
theorem front_any (A B : Option Addr) (n m c d : Nat) (a b : List Int) (w : World) (hn : a.length = n) (hm : b.length = m) (hb : n ≤ 1048576) (hb' : m ≤ 1048576) (h1 : Row w A (iv a)) (h2 : Row w B (iv b)) :
    Calls Try.prog 28 #[.slice A n c, .slice B m d] w (MadeI (frontL a b) w) := by
  obtain ⟨i0, hi, hz0, hz1, hz2⟩ := info_parts Try.infoInt
  have HN := Lib.hid hn
  have HM := Lib.hid hm
  clear hn hm
  have hmk : ∀ w, (Instr.makeSlice 25 (.int .i64 ((m : Int) + 1)) (.int .i64 ((m : Int) + 1))).run Try.prog w = .ok (.slice (some ⟨w.heap.size, 0, none⟩) (m + 1) (m + 1)) (w.alloc (.cells (madeCells #[.int .i64 0] (m + 1)) 3)) := fun w => by
    have h := run_make_row (P := Try.prog) 25 3 i0 (.int .i64 0) Try.underlying25 hi hz0 hz1 rfl .i64 .i64 (m + 1) (by rw [hz2]; omega) (by omega) w
    rw [Int.natCast_succ] at h
    exact h
  go_enter Try.func28, Try.ntmps28
  go_upto_region 1 with (fail)
  go_cut [5, 6] (fun u v wx => FrRows a b m 0 u v w wx)
  case first =>
    have HT := Lib.hid (fr_two a b m w)
    go_region
    all_goals (go_wp2_with fail; go_meet; first | exact HT.out.1 | exact HT.out.2)
  case rest =>
    clear hmk
    go_wp2_with fail
    go_loopw [5, 6, 19] (fun u v i wr => ∃ k : Nat, k ≤ n ∧ i = .int .i64 (k : Int) ∧ FrRows a b m k u v w wr) (fun _ _ i _ => n - (intOf i).toNat)
    case atStart => exact ⟨0, Nat.zero_le _, rfl, hcut⟩
    case round =>
      clear hcut
      obtain ⟨k, hk, rfl, hh, gg, F, G, rfl, rfl, q1, q2, q3, q4, q5, q6, q7, q8⟩ := hrel
      by_cases hlt : k < n
      · obtain ⟨ga, oa, rfl, hc⟩ := (h1.below q8).int (k := k) (by rw [HN.out]; exact hlt)
        have HX : Hid (a[k]? = some (a[k]'(by rw [HN.out]; exact hlt))) := List.getElem?_eq_getElem _
        generalize a[k]'(by rw [HN.out]; exact hlt) = x at *
        clear h1
        go_wp2_with fail
        refine (fillFront_any x B m d gg hh (m + 1) (m + 1) b G F w wr HM.out hb' h2 q8 q2 q1 q4 q5).mono ?_
        rintro e w1 ⟨⟨v, rfl⟩, t1, t2⟩
        have R : Hid (FrRows a b m (k + 1) (.slice (some ⟨gg, 0, none⟩) (m + 1) (m + 1)) (.slice (some ⟨hh, 0, none⟩) (m + 1) (m + 1)) w w1) :=
          ⟨gg, hh, G, _, rfl, rfl, Ne.symm q1, q3, q2, t1, rowIs_grown q4 t2 (fun e => q1 (by injection e with e; exact e.symm)), by rw [q7 0 (Nat.zero_le _), px_zero_right]; rfl,
            fun c hc => by have := fillA_row (F := F) HX.out (by rw [HN.out]; exact hb) (fun c hc => q7 c (by rw [← HM.out]; exact hc)) q6 c (by rw [HM.out]; exact hc); rw [HM.out] at this; exact this, q8.grown t2 q8.size (fun r e => by cases e; exact q2)⟩
        clear q4 q5 q7 q8 t1 t2 hc h2
        go_wp2_with fail
        go_roundw
        case rel => exact ⟨k + 1, by omega, by go_num, R.out⟩
        case measure => simp [intOf]; omega
      · obtain rfl : k = n := by omega
        have HF : Hid (MadeI (frontL a b) w (.returned (.slice (some ⟨hh, 0, none⟩) (m + 1) (m + 1))) wr) := made_isRow q4 q3 hb' (by unfold frontL; rw [HM.out]; exact rowL_congr fun c hc => by rw [q7 c hc, HN.out]) q8
        clear q4 q5 q7 q8
        go_wp2_with fail
        go_ret
        exact HF.out

/-! ### Next -/
def FnRel (x : Int) (b : List Int) (row : List Int) (A1 : Option Addr) (g m : Nat) (F : Nat → Int) (w : World) (i : Value) (wr : World) : Prop :=
  ∃ k : Nat, k ≤ m ∧ i = .int .i64 (k : Int) ∧ IsRow wr g (m + 1) (fillA x b (nth row) F k) ∧ Row wr A1 (iv row) ∧ w.grownBy wr (some g)
theorem fn_step {x : Int} {b row : List Int} {h o g m k : Nat} {F : Nat → Int} {w wr : World} {y v : Int} (hk : k < m) (hy : b[k]? = some y) (hgh : g ≠ h) (h1 : IsRow wr g (m + 1) (fillA x b (nth row) F k)) (h2 : Row wr (some ⟨h, o, none⟩) (iv row)) (h3 : w.grownBy wr (some g)) (hv : v = stepA x (nth row) (fillA x b (nth row) F k) (k, y) (k + 1)) : FnRel x b row (some ⟨h, o, none⟩) g m F w (.int .i64 ((k + 1 : Nat) : Int)) (wr.setCell ⟨g, k + 1, none⟩ (.int .i64 v)) := by
  refine ⟨k + 1, hk, rfl, ?_, h2.grown (grown_set (World.grownBy.refl wr _) _ _) (fun a e => by cases e; intro e; injection e with e; exact hgh e.symm), grown_set h3 _ _⟩
  refine World.rowIs.congr (World.rowIs.set h1 (k + 1) _) fun i _ => ?_
  show _ = Value.int .i64 (stepA x (nth row) (fillA x b (nth row) F k) (k, b[k]?.getD 0) i)
  rw [hy]
  by_cases e : i = k + 1
  · subst e
    rw [if_pos rfl, hv]
    rfl
  · rw [if_neg e]
    congr 1
    exact (if_neg e).symm
theorem FnRel.drew {x : Int} {b row : List Int} {A1 : Option Addr} {g m : Nat} {F : Nat → Int} {w wr : World} {i : Value} (hr : FnRel x b row A1 g m F w i wr) : FnRel x b row A1 g m F w i wr.drew := by
  obtain ⟨k, h1, h2, h3, h4, h5⟩ := hr
  exact ⟨k, h1, h2, h3, h4, grown_drew h5⟩
theorem Row.nth {w : World} {h o : Nat} {l : List Int} (hr : Row w (some ⟨h, o, none⟩) (iv l)) {k : Nat} (hk : k < l.length) : w.cell? ⟨h, o + k, none⟩ = some (.int .i64 (nth l k)) := by
  obtain ⟨g, o', e, hc⟩ := hr.int hk
  cases e
  rw [hc, nth_of (List.getElem?_eq_getElem hk)]

set_option maxRecDepth 100000 in
set_option maxHeartbeats 1600000 in
theorem fillFront_row (x : Int) (A : Option Addr) (m d g h o c1 c2 : Nat) (b row : List Int) (F : Nat → Int) (w0 w : World) (hm : b.length = m) (hl : row.length = m + 1) (hm' : m ≤ 1048576) (hb : Row w0 A (iv b)) (h0 : Below w0.heap.size w0 w) (hg0 : w0.heap.size ≤ g) (hgh : g ≠ h) (rG : Row w (some ⟨h, o, none⟩) (iv row)) (rF : IsRow w g (m + 1) F) :
    Calls Try.prog 33 #[.int .i64 x, .slice A m d, .slice (some ⟨h, o, none⟩) (m + 1) c1, .slice (some ⟨g, 0, none⟩) (m + 1) c2] w fun e w' => (∃ v, e = .returned v) ∧ IsRow w' g (m + 1) (fillA x b (nth row) F m) ∧ w.grownBy w' (some g) := by
  have HM := Lib.hid hm
  have HL := Lib.hid hl
  clear hm hl
  have hs := h0.size
  go_enter Try.func33, Try.ntmps33
  go_wp2_with fail
  go_loopw [12] (fun i wr => FnRel x b row (some ⟨h, o, none⟩) g m F w i wr) (fun i _ => m - (intOf i).toNat)
  case atStart => exact ⟨0, Nat.zero_le _, rfl, rF, rG, World.grownBy.refl _ _⟩
  case round =>
    clear rF rG
    obtain ⟨k, hk, rfl, h1, h2, h3⟩ := hrel
    by_cases hlt : k < m
    · obtain ⟨gb, ob, rfl, hc⟩ := (hb.below (h0.grown h3 hs (fun r e => by cases e; exact hg0))).int (k := k) (by rw [HM.out]; exact hlt)
      have HY : Hid (b[k]? = some (b[k]'(by rw [HM.out]; exact hlt))) := List.getElem?_eq_getElem _
      generalize b[k]'(by rw [HM.out]; exact hlt) = y at *
      have R := Lib.hid (fun v hv => fn_step (v := v) hlt HY.out hgh h1 h2 h3 hv)
      have t1 := h2.nth (k := k) (by rw [HL.out]; omega)
      have t2 := h2.nth (k := k + 1) (by rw [HL.out]; omega)
      have t3 := World.rowIs.cell h1 (i := k) (by omega)
      have t4 := World.rowIs.cell h1 (i := k + 1) (by omega)
      have t5 := World.rowIs.frozen h1 (k + 1)
      clear h1 h2 h3 hb h0
      generalize fillA x b (nth row) F k = F' at *
      generalize nth row = G at *
      by_cases heq : x = y
      · subst heq
        have HV : Hid (stepA x G F' (k, x) (k + 1) = IntKind.i64.wrap (G k + 1)) := by show _ = _; simp [stepA]
        go_wp2_with fail
        go_roundw
        case rel => exact R.out _ (by rw [HV.out]; first | rfl | simp [wrap64, IntKind.wrap_i64] | (rw [IntKind.wrap_i64]; rfl))
        case measure => simp [intOf]; omega
      · have hz : (y == x) = false := by simpa using Ne.symm heq
        have HV : Hid (stepA x G F' (k, y) (k + 1) = if G (k + 1) < F' k then F' k else G (k + 1)) := by show _ = _; simp [stepA, heq]
        clear heq
        by_cases hXY : G (k + 1) < F' k
        · rw [if_pos hXY] at HV
          go_wp2_with fail
          go_region
          go_wp2_with fail
          go_roundw
          case rel => exact (R.out _ (by rw [HV.out])).drew
          case measure => simp [intOf]; omega
        · rw [if_neg hXY] at HV
          go_wp2_with fail
          go_region
          go_wp2_with fail
          go_roundw
          case rel => exact (R.out _ (by rw [HV.out])).drew
          case measure => simp [intOf]; omega
    · obtain rfl : k = m := by omega
      have HF := Lib.hid h1
      have HG := Lib.hid h3
      clear h1 h2 h3
      go_wp2_with fail
      go_end0
      exact ⟨⟨_, rfl⟩, HF.out, HG.out⟩

theorem lt_of_c {w : World} {a : Addr} {v : Value} (h : w.cell? a = some v) : a.block < w.heap.size := by
  rcases Nat.lt_or_ge a.block w.heap.size with g | g
  · exact g
  · simp [World.cell?, Array.getElem?_eq_none g] at h
theorem nx_start {w : World} {g m : Nat} (h : IsRow w g (m + 1) (fun _ => 0)) (r : Int) : IsRow (w.setCell ⟨g, 0, none⟩ (.int .i64 r)) g (m + 1) (fun c => if c = 0 then r else 0) :=
  World.rowIs.congr (World.rowIs.set h 0 _) fun c _ => by dsimp only; split <;> rfl

end Go.Proofs.Ytkiijldiofbflaa
