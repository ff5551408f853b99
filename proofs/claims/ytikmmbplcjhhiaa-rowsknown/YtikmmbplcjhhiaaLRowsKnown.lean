/-
  Proved: tattinglaw10.RowsKnown returns true.
-/
import Derived.Test.YtikmmbplcjhhiaaAwake10
import Derived.Test.YtikmmbplcjhhiaaArgs
namespace Go.Proofs.Ytikmmbplcjhhiaa.rowsKnownP
open Go.ChangeShapes Go.WideShapes Go.ChangeAt Go.RowKit

set_option maxRecDepth 100000 in
set_option maxHeartbeats 3200000 in
theorem rowsKnown_walk (w : World) : Calls Try.prog 3 #[] w (Yes w) := by
  go_enter Try.func3, Try.ntmps3
  go_wp2_with fail
  refine (split_any _ _ 3 3 _ _ [1, 0, 1] [0, 0, 0] _ rfl rfl (by decide) ((row_lit (iv [1, 0, 1]) 3 (by simp)).alloc _) (row_lit (iv [0, 0, 0]) 3 (by simp))).mono ?_
  rintro e w1 ⟨rfl, q, hq⟩
  have hb := below_of hq
  clear hq
  have B := below_go (below_al (below_al (Below.refl _ _) _) _) hb
  have r_f : Row w1 (some ⟨w.heap.size, 0, none⟩) (iv [1, 0, 1]) := Row.below ((row_lit (iv [1, 0, 1]) 3 (by simp)).alloc _) hb
  have r_g : Row w1 (some ⟨w.heap.size + 1, 0, none⟩) (iv [0, 0, 0]) := Row.below (row_lit (iv [0, 0, 0]) 3 (by simp)) hb
  have bb := B
  clear B hb
  rw [show splitL [1, 0, 1] [0, 0, 0] = (0, 1) by decide +kernel]
  clear r_f
  clear r_g
  go_wp2_with fail
  refine (split_any _ _ 1 2 _ _ [1] [1, 2] _ rfl rfl (by decide) ((row_lit (iv [1]) 3 (by simp)).alloc _) (row_lit (iv [1, 2]) 3 (by simp))).mono ?_
  rintro e w2 ⟨rfl, q, hq⟩
  have hb := below_of hq
  clear hq
  have B := below_go (below_al (below_al (Below.refl _ _) _) _) hb
  have r_f : Row w2 (some ⟨w1.heap.size, 0, none⟩) (iv [1]) := Row.below ((row_lit (iv [1]) 3 (by simp)).alloc _) hb
  have r_g : Row w2 (some ⟨w1.heap.size + 1, 0, none⟩) (iv [1, 2]) := Row.below (row_lit (iv [1, 2]) 3 (by simp)) hb
  replace bb := below_go bb B
  clear B hb
  rw [show splitL [1] [1, 2] = (0, 0) by decide +kernel]
  clear r_f
  clear r_g
  go_wp2_with fail
  refine (split_any _ _ 0 0 _ _ [] [] _ rfl rfl (by decide) (Row.nil _ _) (Row.nil _ _)).mono ?_
  rintro e w3 ⟨rfl, q, hq⟩
  have hb := below_of hq
  clear hq
  have B := below_go (Below.refl _ _) hb
  replace bb := below_go bb B
  clear B hb
  rw [show splitL [] [] = (0, 0) by decide +kernel]
  go_wp2_with fail
  refine (awake10 _).mono ?_
  rintro e w4 ⟨rfl, hb⟩
  have B := below_go (Below.refl _ _) hb
  replace bb := below_go bb B
  clear B hb
  go_wp2_with fail
  refine (next_any _ _ 2 2 _ _ [0, 0] 1 [1, 2] _ rfl rfl (by decide) ((row_lit (iv [0, 0]) 3 (by simp)).alloc _) (row_lit (iv [1, 2]) 3 (by simp))).mono ?_
  rintro e w5 ⟨v, rfl, hv, hb⟩
  have B := below_go (below_al (below_al (Below.refl _ _) _) _) hb
  have r_r : Row w5 (some ⟨w4.heap.size, 0, none⟩) (iv [0, 0]) := Row.below ((row_lit (iv [0, 0]) 3 (by simp)).alloc _) hb
  have r_b : Row w5 (some ⟨w4.heap.size + 1, 0, none⟩) (iv [1, 2]) := Row.below (row_lit (iv [1, 2]) 3 (by simp)) hb
  replace bb := below_go bb B
  clear B hb
  rw [show nextL [0, 0] 1 [1, 2] = [] by decide +kernel] at hv
  obtain ⟨V_x, c_x, rfl, _, _, r_x, _⟩ := own_slice hv
  clear hv
  clear r_r
  clear r_b
  clear r_x
  go_wp2_with fail
  refine (next_any _ _ 0 0 _ _ [] 1 [] _ rfl rfl (by decide) (Row.nil _ _) (Row.nil _ _)).mono ?_
  rintro e w6 ⟨v, rfl, hv, hb⟩
  have B := below_go (Below.refl _ _) hb
  replace bb := below_go bb B
  clear B hb
  rw [show nextL [] 1 [] = [] by decide +kernel] at hv
  obtain ⟨V_x, c_x, rfl, _, _, r_x, _⟩ := own_slice hv
  clear hv
  clear r_x
  go_wp2_with fail
  refine (next_any _ _ 1 0 _ _ [4] 1 [] _ rfl rfl (by decide) (row_lit (iv [4]) 3 (by simp)) (Row.nil _ _)).mono ?_
  rintro e w7 ⟨v, rfl, hv, hb⟩
  have B := below_go (below_al (Below.refl _ _) _) hb
  have r_r : Row w7 (some ⟨w6.heap.size, 0, none⟩) (iv [4]) := Row.below (row_lit (iv [4]) 3 (by simp)) hb
  replace bb := below_go bb B
  clear B hb
  rw [show nextL [4] 1 [] = [4] by decide +kernel] at hv
  obtain ⟨V_x, c_x, rfl, _, _, r_x, _⟩ := own_slice hv
  clear hv
  clear r_r
  go_wp2_with fail
  refine (sameInts_any _ _ 1 1 _ _ [4] [4] _ rfl rfl (by decide) (r_x.alloc _) (row_lit (iv [4]) 3 (by simp))).mono ?_
  rintro e w8 ⟨rfl, q, hq⟩
  have hb := below_of hq
  clear hq
  have B := below_go (below_al (Below.refl _ _) _) hb
  have r_y : Row w8 (some ⟨w7.heap.size, 0, none⟩) (iv [4]) := Row.below (row_lit (iv [4]) 3 (by simp)) hb
  replace r_x := r_x.below B
  replace bb := below_go bb B
  clear B hb
  rw [show decide (([4] : List Int) = [4]) = true by decide]
  clear r_x
  clear r_y
  go_wp2_with fail
  refine (next_any _ _ 3 2 _ _ [5, -2, 9] 3 [3, 4] _ rfl rfl (by decide) ((row_lit (iv [5, -2, 9]) 3 (by simp)).alloc _) (row_lit (iv [3, 4]) 3 (by simp))).mono ?_
  rintro e w9 ⟨v, rfl, hv, hb⟩
  have B := below_go (below_al (below_al (Below.refl _ _) _) _) hb
  have r_r : Row w9 (some ⟨w8.heap.size, 0, none⟩) (iv [5, -2, 9]) := Row.below ((row_lit (iv [5, -2, 9]) 3 (by simp)).alloc _) hb
  have r_b : Row w9 (some ⟨w8.heap.size + 1, 0, none⟩) (iv [3, 4]) := Row.below (row_lit (iv [3, 4]) 3 (by simp)) hb
  replace bb := below_go bb B
  clear B hb
  rw [show nextL [5, -2, 9] 3 [3, 4] = [5, 6, 9] by decide +kernel] at hv
  obtain ⟨V_x, c_x, rfl, _, _, r_x, _⟩ := own_slice hv
  clear hv
  clear r_r
  clear r_b
  go_wp2_with fail
  refine (sameInts_any _ _ 3 3 _ _ [5, 6, 9] [5, 6, 9] _ rfl rfl (by decide) (r_x.alloc _) (row_lit (iv [5, 6, 9]) 3 (by simp))).mono ?_
  rintro e w10 ⟨rfl, q, hq⟩
  have hb := below_of hq
  clear hq
  have B := below_go (below_al (Below.refl _ _) _) hb
  have r_y : Row w10 (some ⟨w9.heap.size, 0, none⟩) (iv [5, 6, 9]) := Row.below (row_lit (iv [5, 6, 9]) 3 (by simp)) hb
  replace r_x := r_x.below B
  replace bb := below_go bb B
  clear B hb
  rw [show decide (([5, 6, 9] : List Int) = [5, 6, 9]) = true by decide]
  go_wp2_with fail
  go_ret
  exact Yes.of bb

/-! ### The row's step -/
theorem own : ownKnob Try.prog.godebug = none := by kernel_rfl
theorem laidOut : laidOutB Try.prog = true := by kernel_rfl

theorem contract (H : Type) (enc : TypeId × Value → H) (W : World) (base : Nat) (args : Array Value) (ds gs : List (DataW H)) (before : List MemPlace)
    (hval : ∀ (j : Nat) t v, Try.f3.params[j]? = some t → args[j]? = some v → Value.okWide Try.prog W .any base t v)
    (hW : DataW.Whole enc Try.prog Try.f3.params.toList Rows.rowsKnownSpec.vars false W args.toList ds gs before) :
    Calls Try.prog 3 args W fun e W' => ∃ v, e = .returned v ∧ Rows.rowsKnownSpec.post enc Try.prog Try.f3 false true false false W args v W' := by
  have hW' := hW
  obtain ⟨p, q, hA0, hV, rfl, hfz, hnd⟩ := hW
  have hA : DataW.TrodAll enc Try.prog W 0 (fun _ => true) true Try.f3.params.toList args.toList ds p := hA0
  rw [Try.params3] at hA
  obtain ⟨rfl, rfl, rfl⟩ := trodAll_none hA
  obtain ⟨rfl, rfl⟩ := trodVars_none hV
  clear hA0
  refine (rowsKnown_walk  W ).mono fun e W' ⟨he, bel⟩ => ?_
  subst he
  exact ⟨_, rfl, _, _, _, [], _, [], hW', trodAll_mk1 (shut_bool Try.underlying4 _), trodAll_mk0, rfl, bel.frame _, fun h => by cases h⟩

set_option maxRecDepth 100000 in
theorem lifted (os : Os) (started : os.Started) (H : Type) (enc : TypeId × Value → H) :
    ReturnsInHanded {} Try.checked os 3 .any (Rows.rowsKnownSpec.pre6 enc Try.prog Try.f3 Rows.rowsKnownRow.domain false) (Rows.rowsKnownSpec.post enc Try.prog Try.f3 false true false false) := by
  refine returnsInHanded_of_change (C := Try.checked) own started (by kernel_rfl) Try.func3
    (ChangeSpec.witness6 (enc := enc) (C := Try.checked) false ⟨#[], #[], []⟩ 8 (by kernel_rfl) (by kernel_rfl) (by kernel_rfl) (by kernel_rfl)) ?_
  intro W base args ds gs before hval hW _ _
  exact contract H enc W base args ds gs before hval hW

/-- The statement. -/
theorem proved : Rows.RowsKnownSaid :=
  OpenClaim.holds_of_wide 3 Try.f3 rfl rfl rfl rfl rfl rfl rfl ⟨rfl, rfl, rfl, rfl, rfl⟩ rfl rfl rfl rfl rfl (by kernel_rfl) Try.func3 (by kernel_rfl)
    (of_decide_eq_true (by kernel_rfl)) (by unfold Func.isWrapper; first | (rw [if_pos (by decide +kernel)]; kernel_rfl) | (rw [if_neg (by decide +kernel)]; exact ⟨rfl, rfl⟩))
    (fun os started H enc _ => lifted os started H enc)

end Go.Proofs.Ytikmmbplcjhhiaa.rowsKnownP
