/-
  Proved: tattinglaw18.OnpKnown returns true.
-/
import Derived.Test.YtgbcdeahiemhoaaM32
import Derived.Test.YtgbcdeahiemhoaaM33
namespace Go.Proofs.Ytgbcdeahiemhoaa.onpKnownP
open Go.ChangeShapes Go.WideShapes Go.ChangeAt Go.RowKit

set_option maxRecDepth 100000 in
set_option maxHeartbeats 3200000 in
theorem onpKnown_walk (w : World) : Calls Try.prog 3 #[] w (Yes w) := by
  go_enter Try.func3, Try.ntmps3
  go_wp2_with fail
  refine (odist_any _ _ 2 2 2 2 [4, 5] [4, 5] _ rfl rfl (by decide) (by decide) (by decide) (by decide) ((row_lit (iv [4, 5]) 3 (by simp)).alloc _) (row_lit (iv [4, 5]) 3 (by simp))).mono ?_
  rintro e w1 ⟨rfl, hb⟩
  have B := below_go (below_al (below_al (Below.refl _ _) _) _) hb
  have bb := B
  clear B hb
  rw [show dist [4, 5] [4, 5] = 0 by decide +kernel, show stN (wdt [4, 5] [4, 5]) (rgt [4, 5] [4, 5] + 1) = 1 by decide +kernel]
  go_wp2_with fail
  refine (odist_any _ _ 0 3 0 3 [] [1, 2, 3] _ rfl rfl (by decide) (by decide) (by decide) (by decide) (Row.nil _ _) (row_lit (iv [1, 2, 3]) 3 (by simp))).mono ?_
  rintro e w2 ⟨rfl, hb⟩
  have B := below_go (below_al (Below.refl _ _) _) hb
  replace bb := below_go bb B
  clear B hb
  rw [show dist [] [1, 2, 3] = 3 by decide +kernel, show stN (wdt [] [1, 2, 3]) (rgt [] [1, 2, 3] + 1) = 4 by decide +kernel]
  go_wp2_with fail
  refine (odist_any _ _ 1 2 1 2 [1] [2, 3] _ rfl rfl (by decide) (by decide) (by decide) (by decide) ((row_lit (iv [1]) 3 (by simp)).alloc _) (row_lit (iv [2, 3]) 3 (by simp))).mono ?_
  rintro e w3 ⟨rfl, hb⟩
  have B := below_go (below_al (below_al (Below.refl _ _) _) _) hb
  replace bb := below_go bb B
  clear B hb
  rw [show dist [1] [2, 3] = 3 by decide +kernel, show stN (wdt [1] [2, 3]) (rgt [1] [2, 3] + 1) = 6 by decide +kernel]
  go_wp2_with fail
  refine (ofar_any _ _ 2 2 2 2 (0) [1, 2] [1, 2] _ rfl rfl (by decide) (by decide) (by decide) (by decide) ((row_lit (iv [1, 2]) 3 (by simp)).alloc _) (row_lit (iv [1, 2]) 3 (by simp))).mono ?_
  rintro e w4 ⟨v, rfl, hv, hb⟩
  have B := below_go (below_al (below_al (Below.refl _ _) _) _) hb
  replace bb := below_go bb B
  clear B hb
  rw [show farI [1, 2] [1, 2] (0) = [2] by decide +kernel] at hv
  obtain ⟨V_x, c_x, rfl, _, _, r_x, _⟩ := own_slice hv
  clear hv
  go_wp2_with fail
  refine (ofar_any _ _ 1 2 1 2 (1) [2] [1, 2] _ rfl rfl (by decide) (by decide) (by decide) (by decide) ((row_lit (iv [2]) 3 (by simp)).alloc _) (row_lit (iv [1, 2]) 3 (by simp))).mono ?_
  rintro e w5 ⟨v, rfl, hv, hb⟩
  have B := below_go (below_al (below_al (Below.refl _ _) _) _) hb
  replace r_x := r_x.below B
  replace bb := below_go bb B
  clear B hb
  rw [show farI [2] [1, 2] (1) = [0, 1, 2, 2] by decide +kernel] at hv
  obtain ⟨V_y, c_y, rfl, _, _, r_y, _⟩ := own_slice hv
  clear hv
  go_wp2_with fail
  refine (awake18 _).mono ?_
  rintro e w6 ⟨rfl, hb⟩
  have B := below_go (Below.refl _ _) hb
  replace r_x := r_x.below B
  replace r_y := r_y.below B
  replace bb := below_go bb B
  clear B hb
  go_wp2_with fail
  refine (sameInts_any _ _ 1 1 _ _ [2] [2] _ rfl rfl (by decide) (r_x.alloc _) (row_lit (iv [2]) 3 (by simp))).mono ?_
  rintro e w7 ⟨rfl, q, hq⟩
  have hb := below_of hq
  clear hq
  have B := below_go (below_al (Below.refl _ _) _) hb
  replace r_x := r_x.below B
  replace r_y := r_y.below B
  replace bb := below_go bb B
  clear B hb
  rw [show decide (([2] : List Int) = [2]) = true by decide]
  clear r_x
  go_wp2_with fail
  refine (sameInts_any _ _ 4 4 _ _ [0, 1, 2, 2] [0, 1, 2, 2] _ rfl rfl (by decide) (r_y.alloc _) (row_lit (iv [0, 1, 2, 2]) 3 (by simp))).mono ?_
  rintro e w8 ⟨rfl, q, hq⟩
  have hb := below_of hq
  clear hq
  have B := below_go (below_al (Below.refl _ _) _) hb
  replace r_y := r_y.below B
  replace bb := below_go bb B
  clear B hb
  rw [show decide (([0, 1, 2, 2] : List Int) = [0, 1, 2, 2]) = true by decide]
  clear r_y
  go_wp2_with fail
  refine (ofar_any _ _ 1 1 1 1 (2) [1] [1] _ rfl rfl (by decide) (by decide) (by decide) (by decide) ((row_lit (iv [1]) 3 (by simp)).alloc _) (row_lit (iv [1]) 3 (by simp))).mono ?_
  rintro e w9 ⟨v, rfl, hv, hb⟩
  have B := below_go (below_al (below_al (Below.refl _ _) _) _) hb
  replace bb := below_go bb B
  clear B hb
  rw [show farI [1] [1] (2) = [] by decide +kernel] at hv
  obtain ⟨V_z, c_z, rfl, _, _, r_z, _⟩ := own_slice hv
  clear hv
  clear r_z
  go_wp2_with fail
  refine (ofar_any _ _ 0 0 0 0 (-1) [] [] _ rfl rfl (by decide) (by decide) (by decide) (by decide) (Row.nil _ _) (Row.nil _ _)).mono ?_
  rintro e w10 ⟨v, rfl, hv, hb⟩
  have B := below_go (Below.refl _ _) hb
  replace bb := below_go bb B
  clear B hb
  rw [show farI [] [] (-1) = [] by decide +kernel] at hv
  obtain ⟨V_z, c_z, rfl, _, _, r_z, _⟩ := own_slice hv
  clear hv
  clear r_z
  go_wp2_with fail
  refine (most_w (3) (3) (1) _ (by unfold I64; decide)).mono ?_
  rintro e w11 ⟨rfl, hb⟩
  have B := below_go (Below.refl _ _) hb
  replace bb := below_go bb B
  clear B hb
  rw [show mostQ (3) (3) (1) = 0 by decide +kernel]
  go_wp2_with fail
  refine (most_w (3) (5) (0) _ (by unfold I64; decide)).mono ?_
  rintro e w12 ⟨rfl, hb⟩
  have B := below_go (Below.refl _ _) hb
  replace bb := below_go bb B
  clear B hb
  rw [show mostQ (3) (5) (0) = 0 by decide +kernel]
  go_wp2_with fail
  refine (most_w (3) (3) (8) _ (by unfold I64; decide)).mono ?_
  rintro e w13 ⟨rfl, hb⟩
  have B := below_go (Below.refl _ _) hb
  replace bb := below_go bb B
  clear B hb
  rw [show mostQ (3) (3) (8) = 0 by decide +kernel]
  go_wp2_with fail
  refine (most_w (-1) (3) (4) _ (by unfold I64; decide)).mono ?_
  rintro e w14 ⟨rfl, hb⟩
  have B := below_go (Below.refl _ _) hb
  replace bb := below_go bb B
  clear B hb
  rw [show mostQ (-1) (3) (4) = 0 by decide +kernel]
  go_wp2_with fail
  refine (most_w (0) (0) (0) _ (by unfold I64; decide)).mono ?_
  rintro e w15 ⟨rfl, hb⟩
  have B := below_go (Below.refl _ _) hb
  replace bb := below_go bb B
  clear B hb
  rw [show mostQ (0) (0) (0) = 1 by decide +kernel]
  go_wp2_with fail
  refine (most_w (2) (2) (4) _ (by unfold I64; decide)).mono ?_
  rintro e w16 ⟨rfl, hb⟩
  have B := below_go (Below.refl _ _) hb
  replace bb := below_go bb B
  clear B hb
  rw [show mostQ (2) (2) (4) = 9 by decide +kernel]
  go_wp2_with fail
  go_ret
  exact Yes.of bb

/-! ### The row's step -/
theorem own : ownKnob Try.prog.godebug = none := by kernel_rfl
theorem laidOut : laidOutB Try.prog = true := by kernel_rfl

set_option maxRecDepth 100000 in
theorem contract (H : Type) (enc : TypeId × Value → H) (W : World) (base : Nat) (args : Array Value) (ds gs : List (DataW H)) (before : List MemPlace)
    (hval : ∀ (j : Nat) t v, Try.f3.params[j]? = some t → args[j]? = some v → Value.okWide Try.prog W .any base t v)
    (hW : DataW.Whole enc Try.prog Try.f3.params.toList Rows.onpKnownSpec.vars false W args.toList ds gs before) :
    Calls Try.prog 3 args W fun e W' => ∃ v, e = .returned v ∧ Rows.onpKnownSpec.post enc Try.prog Try.f3 false true false false W args v W' := by
  have hW' := hW
  obtain ⟨p, q, hA0, hV, rfl, hfz, hnd⟩ := hW
  have hA : DataW.TrodAll enc Try.prog W 0 (fun _ => true) true Try.f3.params.toList args.toList ds p := hA0
  rw [Try.params3] at hA
  obtain ⟨rfl, rfl, rfl⟩ := trodAll_none hA
  obtain ⟨rfl, rfl⟩ := trodVars_none hV
  clear hA0
  refine (onpKnown_walk  W ).mono fun e W' ⟨he, bel⟩ => ?_
  subst he
  exact ⟨_, rfl, _, _, _, [], _, [], hW', trodAll_mk1 (shut_bool Try.underlying4 _), trodAll_mk0, rfl, bel.frame _, fun h => by cases h⟩

set_option maxRecDepth 100000 in
theorem lifted (os : Os) (started : os.Started) (H : Type) (enc : TypeId × Value → H) :
    ReturnsInHanded {} Try.checked os 3 .any (Rows.onpKnownSpec.pre6 enc Try.prog Try.f3 Rows.onpKnownRow.domain false) (Rows.onpKnownSpec.post enc Try.prog Try.f3 false true false false) := by
  refine returnsInHanded_of_change (C := Try.checked) own started (by kernel_rfl) Try.func3
    (ChangeSpec.witness6 (enc := enc) (C := Try.checked) false ⟨#[], #[], []⟩ 8 (by kernel_rfl) (by kernel_rfl) (by kernel_rfl) (by kernel_rfl)) ?_
  intro W base args ds gs before hval hW _ _
  exact contract H enc W base args ds gs before hval hW

/-- The statement. -/
theorem proved : Rows.OnpKnownSaid :=
  OpenClaim.holds_of_wide 3 Try.f3 rfl rfl rfl rfl rfl rfl rfl ⟨rfl, rfl, rfl, rfl, rfl⟩ rfl rfl rfl rfl rfl (by kernel_rfl) Try.func3 (by kernel_rfl)
    (of_decide_eq_true (by kernel_rfl)) (by unfold Func.isWrapper; first | (rw [if_pos (by decide +kernel)]; kernel_rfl) | (rw [if_neg (by decide +kernel)]; exact ⟨rfl, rfl⟩))
    (fun os started H enc _ => lifted os started H enc)

end Go.Proofs.Ytgbcdeahiemhoaa.onpKnownP
