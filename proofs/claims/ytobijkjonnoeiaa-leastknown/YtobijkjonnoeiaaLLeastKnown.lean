/-
  Proved: tattinglaw9.LeastKnown returns true.
-/
import Derived.Test.YtobijkjonnoeiaaAwake9
import Derived.Test.YtobijkjonnoeiaaArgs
namespace Go.Proofs.Ytobijkjonnoeiaa.leastKnownP
open Go.ChangeShapes Go.WideShapes Go.ChangeAt Go.RowKit

set_option maxRecDepth 100000 in
set_option maxHeartbeats 3200000 in
theorem leastKnown_walk (w : World) : Calls Try.prog 3 #[] w (Yes w) := by
  go_enter Try.func3, Try.ntmps3
  go_wp2_with fail
  refine (lof_any _ _ 3 3 _ _ [3, 1, 1] [1, 1, 3] _ rfl rfl (by decide) (by decide) (by decide) (by decide) ((row_lit (iv [3, 1, 1]) 3 (by simp)).alloc _) (row_lit (iv [1, 1, 3]) 3 (by simp))).mono ?_
  rintro e w1 ⟨v, rfl, hv, hb⟩
  have B := below_go (below_al (below_al (Below.refl _ _) _) _) hb
  have r_a : Row w1 (some ⟨w.heap.size, 0, none⟩) (iv [3, 1, 1]) := Row.below ((row_lit (iv [3, 1, 1]) 3 (by simp)).alloc _) hb
  have r_b : Row w1 (some ⟨w.heap.size + 1, 0, none⟩) (iv [1, 1, 3]) := Row.below (row_lit (iv [1, 1, 3]) 3 (by simp)) hb
  have bb := B
  clear B hb
  rw [show lst [3, 1, 1] [1, 1, 3] = [(1, 0), (2, 1)] by decide] at hv
  obtain ⟨V_l, c_l, rfl, _, _, r_l, _⟩ := own_sliceS hv
  clear hv
  clear r_a
  clear r_b
  go_wp2_with fail
  refine (lfirst_any _ _ 0 1 _ _ [] [1] _ rfl rfl (by decide) (by decide) (by decide) (by decide) (Row.nil _ _) (row_lit (iv [1]) 3 (by simp))).mono ?_
  rintro e w2 ⟨rfl, hb⟩
  have B := below_go (below_al (Below.refl _ _) _) hb
  have r_b : Row w2 (some ⟨w1.heap.size, 0, none⟩) (iv [1]) := Row.below (row_lit (iv [1]) 3 (by simp)) hb
  replace r_l := r_l.below B
  replace bb := below_go bb B
  clear B hb
  rw [show hdP (lst [] [1]) = (0, 0) by decide]
  rw [show decide (0 < (lst [] [1]).length) = false by decide]
  clear r_b
  go_wp2_with fail
  refine (awake9 _).mono ?_
  rintro e w3 ⟨rfl, hb⟩
  have B := below_go (below_al (Below.refl _ _) _) hb
  replace r_l := r_l.below B
  replace bb := below_go bb B
  clear B hb
  obtain ⟨g_l, o_l, rfl, c0_l, d0_l⟩ := r_l.pair (k := 0) (by decide)
  have x0_l : w3.cell? ⟨g_l, o_l, none⟩ = some (.int .i64 1) := by simpa using c0_l
  have y0_l : w3.cell? ⟨g_l, o_l + 1, none⟩ = some (.int .i64 0) := by simpa using d0_l
  clear c0_l d0_l
  obtain ⟨_, _, e_l, c1_l, d1_l⟩ := r_l.pair (k := 1) (by decide)
  cases e_l
  have x1_l : w3.cell? ⟨g_l, o_l + 2, none⟩ = some (.int .i64 2) := by simpa using c1_l
  have y1_l : w3.cell? ⟨g_l, o_l + 3, none⟩ = some (.int .i64 1) := by simpa using d1_l
  clear c1_l d1_l
  clear r_l
  go_wp2_with fail
  refine (lof_any _ _ 1 1 _ _ [1] [2] _ rfl rfl (by decide) (by decide) (by decide) (by decide) ((row_lit (iv [1]) 3 (by simp)).alloc _) (row_lit (iv [2]) 3 (by simp))).mono ?_
  rintro e w4 ⟨v, rfl, hv, hb⟩
  have B := below_go (below_al (below_al (Below.refl _ _) _) _) hb
  have r_a : Row w4 (some ⟨w3.heap.size, 0, none⟩) (iv [1]) := Row.below ((row_lit (iv [1]) 3 (by simp)).alloc _) hb
  have r_b : Row w4 (some ⟨w3.heap.size + 1, 0, none⟩) (iv [2]) := Row.below (row_lit (iv [2]) 3 (by simp)) hb
  replace bb := below_go bb B
  clear B hb
  rw [show lst [1] [2] = [] by decide] at hv
  obtain ⟨V_e, c_e, rfl, _, _, r_e, _⟩ := own_sliceS hv
  clear hv
  clear r_a
  clear r_b
  clear r_e
  go_wp2_with fail
  refine (lis_any _ _ _ 1 1 0 _ _ _ [1] [2] [] _ rfl rfl rfl (by decide) (by decide) (by decide) (by decide) (by decide) ((row_lit (iv [1]) 3 (by simp)).alloc _) (row_lit (iv [2]) 3 (by simp)) (Row.nil _ _)).mono ?_
  rintro e w5 ⟨rfl, hb⟩
  have B := below_go (below_al (below_al (Below.refl _ _) _) _) hb
  have r_a : Row w5 (some ⟨w4.heap.size, 0, none⟩) (iv [1]) := Row.below ((row_lit (iv [1]) 3 (by simp)).alloc _) hb
  have r_b : Row w5 (some ⟨w4.heap.size + 1, 0, none⟩) (iv [2]) := Row.below (row_lit (iv [2]) 3 (by simp)) hb
  replace bb := below_go bb B
  clear B hb
  rw [show decide ([] = lst [1] [2]) = true by decide]
  clear r_a
  clear r_b
  go_wp2_with fail
  refine (lis_any _ _ _ 1 2 1 _ _ _ [1] [1, 1] [(0, 1)] _ rfl rfl rfl (by decide) (by decide) (by decide) (by decide) (by decide) (((row_lit (iv [1]) 3 (by simp)).alloc _).alloc _) ((row_lit (iv [1, 1]) 3 (by simp)).alloc _) (row_lit (pv [(0, 1)]) 26 (by simp))).mono ?_
  rintro e w6 ⟨rfl, hb⟩
  have B := below_go (below_al (below_al (below_al (Below.refl _ _) _) _) _) hb
  have r_a : Row w6 (some ⟨w5.heap.size, 0, none⟩) (iv [1]) := Row.below (((row_lit (iv [1]) 3 (by simp)).alloc _).alloc _) hb
  have r_b : Row w6 (some ⟨w5.heap.size + 1, 0, none⟩) (iv [1, 1]) := Row.below ((row_lit (iv [1, 1]) 3 (by simp)).alloc _) hb
  have r_l : Row w6 (some ⟨w5.heap.size + 2, 0, none⟩) (pv [(0, 1)]) := Row.below (row_lit (pv [(0, 1)]) 26 (by simp)) hb
  replace bb := below_go bb B
  clear B hb
  rw [show decide ([(0, 1)] = lst [1] [1, 1]) = false by decide]
  clear r_a
  clear r_b
  clear r_l
  go_wp2_with fail
  refine (lis_any _ _ _ 1 1 0 _ _ _ [1] [1] [] _ rfl rfl rfl (by decide) (by decide) (by decide) (by decide) (by decide) ((row_lit (iv [1]) 3 (by simp)).alloc _) (row_lit (iv [1]) 3 (by simp)) (Row.nil _ _)).mono ?_
  rintro e w7 ⟨rfl, hb⟩
  have B := below_go (below_al (below_al (Below.refl _ _) _) _) hb
  have r_a : Row w7 (some ⟨w6.heap.size, 0, none⟩) (iv [1]) := Row.below ((row_lit (iv [1]) 3 (by simp)).alloc _) hb
  have r_b : Row w7 (some ⟨w6.heap.size + 1, 0, none⟩) (iv [1]) := Row.below (row_lit (iv [1]) 3 (by simp)) hb
  replace bb := below_go bb B
  clear B hb
  rw [show decide ([] = lst [1] [1]) = false by decide]
  go_wp2_with fail
  go_ret
  exact Yes.of bb

/-! ### The row's step -/
theorem own : ownKnob Try.prog.godebug = none := by kernel_rfl
theorem laidOut : laidOutB Try.prog = true := by kernel_rfl

theorem contract (H : Type) (enc : TypeId × Value → H) (W : World) (base : Nat) (args : Array Value) (ds gs : List (DataW H)) (before : List MemPlace)
    (hval : ∀ (j : Nat) t v, Try.f3.params[j]? = some t → args[j]? = some v → Value.okWide Try.prog W .any base t v)
    (hW : DataW.Whole enc Try.prog Try.f3.params.toList Rows.leastKnownSpec.vars false W args.toList ds gs before) :
    Calls Try.prog 3 args W fun e W' => ∃ v, e = .returned v ∧ Rows.leastKnownSpec.post enc Try.prog Try.f3 false true false false W args v W' := by
  have hW' := hW
  obtain ⟨p, q, hA0, hV, rfl, hfz, hnd⟩ := hW
  have hA : DataW.TrodAll enc Try.prog W 0 (fun _ => true) true Try.f3.params.toList args.toList ds p := hA0
  rw [Try.params3] at hA
  obtain ⟨rfl, rfl, rfl⟩ := trodAll_none hA
  obtain ⟨rfl, rfl⟩ := trodVars_none hV
  clear hA0
  refine (leastKnown_walk  W ).mono fun e W' ⟨he, bel⟩ => ?_
  subst he
  exact ⟨_, rfl, _, _, _, [], _, [], hW', trodAll_mk1 (shut_bool Try.underlying4 _), trodAll_mk0, rfl, bel.frame _, fun h => by cases h⟩

set_option maxRecDepth 100000 in
theorem lifted (os : Os) (started : os.Started) (H : Type) (enc : TypeId × Value → H) :
    ReturnsInHanded {} Try.checked os 3 .any (Rows.leastKnownSpec.pre6 enc Try.prog Try.f3 Rows.leastKnownRow.domain false) (Rows.leastKnownSpec.post enc Try.prog Try.f3 false true false false) := by
  refine returnsInHanded_of_change (C := Try.checked) own started (by kernel_rfl) Try.func3
    (ChangeSpec.witness6 (enc := enc) (C := Try.checked) false ⟨#[], #[], []⟩ 8 (by kernel_rfl) (by kernel_rfl) (by kernel_rfl) (by kernel_rfl)) ?_
  intro W base args ds gs before hval hW _ _
  exact contract H enc W base args ds gs before hval hW

/-- The statement. -/
theorem proved : Rows.LeastKnownSaid :=
  OpenClaim.holds_of_wide 3 Try.f3 rfl rfl rfl rfl rfl rfl rfl ⟨rfl, rfl, rfl, rfl, rfl⟩ rfl rfl rfl rfl rfl (by kernel_rfl) Try.func3 (by kernel_rfl)
    (of_decide_eq_true (by kernel_rfl)) (by unfold Func.isWrapper; first | (rw [if_pos (by decide +kernel)]; kernel_rfl) | (rw [if_neg (by decide +kernel)]; exact ⟨rfl, rfl⟩))
    (fun os started H enc _ => lifted os started H enc)

end Go.Proofs.Ytobijkjonnoeiaa.leastKnownP
