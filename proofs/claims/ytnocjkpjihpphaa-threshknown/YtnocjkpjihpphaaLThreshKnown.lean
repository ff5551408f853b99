/-
  Proved: tattinglaw15.ThreshKnown returns true.
-/
import Derived.Test.YtnocjkpjihpphaaAwake15
import Derived.Test.YtnocjkpjihpphaaArgs
namespace Go.Proofs.Ytnocjkpjihpphaa.threshKnownP
open Go.ChangeShapes Go.WideShapes Go.ChangeAt Go.RowKit

set_option maxRecDepth 100000 in
set_option maxHeartbeats 3200000 in
theorem threshKnown_walk (w : World) : Calls Try.prog 3 #[] w (Yes w) := by
  go_enter Try.func3, Try.ntmps3
  go_wp2_with fail
  refine (tPut_any _ 2 _ [2, 5] 7 _ rfl (by decide) (asc_of (by decide)) (fun h => by cases h) (row_lit (iv [2, 5]) 3 (by simp))).mono ?_
  rintro e w1 ⟨v, rfl, hv, hb⟩
  have B := below_go (below_al (Below.refl _ _) _) hb
  have r_r : Row w1 (some ⟨w.heap.size, 0, none⟩) (iv [2, 5]) := Row.below (row_lit (iv [2, 5]) 3 (by simp)) hb
  have bb := B
  clear B hb
  rw [show putT [2, 5] 7 = [2, 5, 7] by decide +kernel] at hv
  obtain ⟨V_t, c_t, rfl, _, _, r_t, _⟩ := own_slice hv
  clear hv
  rw [show cntL [2, 5] 7 = 2 by decide +kernel]
  clear r_r
  go_wp2_with fail
  refine (tPut_any _ 2 _ [2, 5] 5 _ rfl (by decide) (asc_of (by decide)) (fun h => by cases h) (row_lit (iv [2, 5]) 3 (by simp))).mono ?_
  rintro e w2 ⟨v, rfl, hv, hb⟩
  have B := below_go (below_al (Below.refl _ _) _) hb
  have r_r : Row w2 (some ⟨w1.heap.size, 0, none⟩) (iv [2, 5]) := Row.below (row_lit (iv [2, 5]) 3 (by simp)) hb
  replace r_t := r_t.below B
  replace bb := below_go bb B
  clear B hb
  rw [show putT [2, 5] 5 = [2, 5] by decide +kernel] at hv
  obtain ⟨V_u, c_u, rfl, _, _, r_u, _⟩ := own_slice hv
  clear hv
  rw [show cntL [2, 5] 5 = 1 by decide +kernel]
  clear r_r
  go_wp2_with fail
  refine (tPut_any _ 0 _ [] (-3) _ rfl (by decide) (asc_of (by decide)) (fun _ => rfl) (Row.nil _ _)).mono ?_
  rintro e w3 ⟨v, rfl, hv, hb⟩
  have B := below_go (Below.refl _ _) hb
  replace r_t := r_t.below B
  replace r_u := r_u.below B
  replace bb := below_go bb B
  clear B hb
  rw [show putT [] (-3) = [-3] by decide +kernel] at hv
  obtain ⟨V_v, c_v, rfl, _, _, r_v, _⟩ := own_slice hv
  clear hv
  rw [show cntL [] (-3) = 0 by decide +kernel]
  go_wp2_with fail
  refine (awake15 _).mono ?_
  rintro e w4 ⟨rfl, hb⟩
  have B := below_go (Below.refl _ _) hb
  replace r_t := r_t.below B
  replace r_u := r_u.below B
  replace r_v := r_v.below B
  replace bb := below_go bb B
  clear B hb
  go_wp2_with fail
  refine (sameInts_any _ _ 3 3 _ _ [2, 5, 7] [2, 5, 7] _ rfl rfl (by decide) (r_t.alloc _) (row_lit (iv [2, 5, 7]) 3 (by simp))).mono ?_
  rintro e w5 ⟨rfl, q, hq⟩
  have hb := below_of hq
  clear hq
  have B := below_go (below_al (Below.refl _ _) _) hb
  have r_y : Row w5 (some ⟨w4.heap.size, 0, none⟩) (iv [2, 5, 7]) := Row.below (row_lit (iv [2, 5, 7]) 3 (by simp)) hb
  replace r_t := r_t.below B
  replace r_u := r_u.below B
  replace r_v := r_v.below B
  replace bb := below_go bb B
  clear B hb
  rw [show decide (([2, 5, 7] : List Int) = [2, 5, 7]) = true by decide]
  clear r_t
  clear r_y
  go_wp2_with fail
  refine (sameInts_any _ _ 2 2 _ _ [2, 5] [2, 5] _ rfl rfl (by decide) (r_u.alloc _) (row_lit (iv [2, 5]) 3 (by simp))).mono ?_
  rintro e w6 ⟨rfl, q, hq⟩
  have hb := below_of hq
  clear hq
  have B := below_go (below_al (Below.refl _ _) _) hb
  have r_y : Row w6 (some ⟨w5.heap.size, 0, none⟩) (iv [2, 5]) := Row.below (row_lit (iv [2, 5]) 3 (by simp)) hb
  replace r_u := r_u.below B
  replace r_v := r_v.below B
  replace bb := below_go bb B
  clear B hb
  rw [show decide (([2, 5] : List Int) = [2, 5]) = true by decide]
  clear r_u
  clear r_y
  go_wp2_with fail
  refine (sameInts_any _ _ 1 1 _ _ [-3] [-3] _ rfl rfl (by decide) (r_v.alloc _) (row_lit (iv [-3]) 3 (by simp))).mono ?_
  rintro e w7 ⟨rfl, q, hq⟩
  have hb := below_of hq
  clear hq
  have B := below_go (below_al (Below.refl _ _) _) hb
  have r_y : Row w7 (some ⟨w6.heap.size, 0, none⟩) (iv [-3]) := Row.below (row_lit (iv [-3]) 3 (by simp)) hb
  replace r_v := r_v.below B
  replace bb := below_go bb B
  clear B hb
  rw [show decide (([-3] : List Int) = [-3]) = true by decide]
  clear r_v
  clear r_y
  go_wp2_with fail
  refine (tfind_any _ 0 _ [] 5 _ rfl (by decide) (asc_of (by decide)) (Row.nil _ _)).mono ?_
  rintro e w8 ⟨rfl, q, hq⟩
  have hb := below_of hq
  clear hq
  have B := below_go (Below.refl _ _) hb
  replace bb := below_go bb B
  clear B hb
  rw [show cntL [] 5 = 0 by decide +kernel]
  go_wp2_with fail
  refine (trow_any _ _ 2 2 _ _ [0, 4] [2, 5] _ rfl rfl (by decide) (asc_of (by decide)) (fun h => by cases h) ((row_lit (iv [0, 4]) 3 (by simp)).alloc _) (row_lit (iv [2, 5]) 3 (by simp))).mono ?_
  rintro e w9 ⟨v, rfl, hv, hb⟩
  have B := below_go (below_al (below_al (Below.refl _ _) _) _) hb
  have r_r : Row w9 (some ⟨w8.heap.size, 0, none⟩) (iv [0, 4]) := Row.below ((row_lit (iv [0, 4]) 3 (by simp)).alloc _) hb
  have r_s : Row w9 (some ⟨w8.heap.size + 1, 0, none⟩) (iv [2, 5]) := Row.below (row_lit (iv [2, 5]) 3 (by simp)) hb
  replace bb := below_go bb B
  clear B hb
  rw [show rowTh [0, 4] [2, 5] = [0, 2, 5] by decide +kernel] at hv
  obtain ⟨V_x, c_x, rfl, _, _, r_x, _⟩ := own_slice hv
  clear hv
  clear r_r
  clear r_s
  go_wp2_with fail
  refine (sameInts_any _ _ 3 3 _ _ [0, 2, 5] [0, 2, 5] _ rfl rfl (by decide) (r_x.alloc _) (row_lit (iv [0, 2, 5]) 3 (by simp))).mono ?_
  rintro e w10 ⟨rfl, q, hq⟩
  have hb := below_of hq
  clear hq
  have B := below_go (below_al (Below.refl _ _) _) hb
  have r_y : Row w10 (some ⟨w9.heap.size, 0, none⟩) (iv [0, 2, 5]) := Row.below (row_lit (iv [0, 2, 5]) 3 (by simp)) hb
  replace r_x := r_x.below B
  replace bb := below_go bb B
  clear B hb
  rw [show decide (([0, 2, 5] : List Int) = [0, 2, 5]) = true by decide]
  clear r_x
  clear r_y
  go_wp2_with fail
  refine (trow_any _ _ 0 0 _ _ [] [] _ rfl rfl (by decide) (asc_of (by decide)) (fun _ => rfl) (Row.nil _ _) (Row.nil _ _)).mono ?_
  rintro e w11 ⟨v, rfl, hv, hb⟩
  have B := below_go (Below.refl _ _) hb
  replace bb := below_go bb B
  clear B hb
  rw [show rowTh [] [] = [] by decide +kernel] at hv
  obtain ⟨V_x, c_x, rfl, _, _, r_x, _⟩ := own_slice hv
  clear hv
  clear r_x
  go_wp2_with fail
  go_ret
  exact Yes.of bb

/-! ### The row's step -/
theorem own : ownKnob Try.prog.godebug = none := by kernel_rfl
theorem laidOut : laidOutB Try.prog = true := by kernel_rfl

set_option maxRecDepth 100000 in
theorem contract (H : Type) (enc : TypeId × Value → H) (W : World) (base : Nat) (args : Array Value) (ds gs : List (DataW H)) (before : List MemPlace)
    (hval : ∀ (j : Nat) t v, Try.f3.params[j]? = some t → args[j]? = some v → Value.okWide Try.prog W .any base t v)
    (hW : DataW.Whole enc Try.prog Try.f3.params.toList Rows.threshKnownSpec.vars false W args.toList ds gs before) :
    Calls Try.prog 3 args W fun e W' => ∃ v, e = .returned v ∧ Rows.threshKnownSpec.post enc Try.prog Try.f3 false true false false W args v W' := by
  have hW' := hW
  obtain ⟨p, q, hA0, hV, rfl, hfz, hnd⟩ := hW
  have hA : DataW.TrodAll enc Try.prog W 0 (fun _ => true) true Try.f3.params.toList args.toList ds p := hA0
  rw [Try.params3] at hA
  obtain ⟨rfl, rfl, rfl⟩ := trodAll_none hA
  obtain ⟨rfl, rfl⟩ := trodVars_none hV
  clear hA0
  refine (threshKnown_walk  W ).mono fun e W' ⟨he, bel⟩ => ?_
  subst he
  exact ⟨_, rfl, _, _, _, [], _, [], hW', trodAll_mk1 (shut_bool Try.underlying4 _), trodAll_mk0, rfl, bel.frame _, fun h => by cases h⟩

set_option maxRecDepth 100000 in
theorem lifted (os : Os) (started : os.Started) (H : Type) (enc : TypeId × Value → H) :
    ReturnsInHanded {} Try.checked os 3 .any (Rows.threshKnownSpec.pre6 enc Try.prog Try.f3 Rows.threshKnownRow.domain false) (Rows.threshKnownSpec.post enc Try.prog Try.f3 false true false false) := by
  refine returnsInHanded_of_change (C := Try.checked) own started (by kernel_rfl) Try.func3
    (ChangeSpec.witness6 (enc := enc) (C := Try.checked) false ⟨#[], #[], []⟩ 8 (by kernel_rfl) (by kernel_rfl) (by kernel_rfl) (by kernel_rfl)) ?_
  intro W base args ds gs before hval hW _ _
  exact contract H enc W base args ds gs before hval hW

/-- The statement. -/
theorem proved : Rows.ThreshKnownSaid :=
  OpenClaim.holds_of_wide 3 Try.f3 rfl rfl rfl rfl rfl rfl rfl ⟨rfl, rfl, rfl, rfl, rfl⟩ rfl rfl rfl rfl rfl (by kernel_rfl) Try.func3 (by kernel_rfl)
    (of_decide_eq_true (by kernel_rfl)) (by unfold Func.isWrapper; first | (rw [if_pos (by decide +kernel)]; kernel_rfl) | (rw [if_neg (by decide +kernel)]; exact ⟨rfl, rfl⟩))
    (fun os started H enc _ => lifted os started H enc)

end Go.Proofs.Ytnocjkpjihpphaa.threshKnownP
