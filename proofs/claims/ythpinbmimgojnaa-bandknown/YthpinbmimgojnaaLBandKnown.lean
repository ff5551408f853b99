/-
  Proved: tattinglaw19.BandKnown returns true.
-/
import Derived.Test.YthpinbmimgojnaaM29
import Derived.Test.YthpinbmimgojnaaM30
namespace Go.Proofs.Ythpinbmimgojnaa.bandKnownP
open Go.ChangeShapes Go.WideShapes Go.ChangeAt Go.RowKit

set_option maxRecDepth 100000 in
set_option maxHeartbeats 3200000 in
theorem bandKnown_walk (w : World) : Calls Try.prog 3 #[] w (Yes w) := by
  go_enter Try.func3, Try.ntmps3
  go_wp2_with fail
  refine (within_w _ _ 0 0 0 0 (-1) [] [] _ rfl rfl (by decide) (by decide) (by decide) (by unfold I64; decide) (Row.nil _ _) (Row.nil _ _)).mono ?_
  rintro e w1 ⟨rfl, hb⟩
  have B := below_go (Below.refl _ _) hb
  have bb := B
  clear B hb
  rw [show wiD [] [] (-1) = 0 by decide +kernel, show wiS [] [] (-1) = 0 by decide +kernel, show wiE [] [] (-1) = 1 by decide +kernel]
  go_wp2_with fail
  refine (within_w _ _ 0 0 0 0 (0) [] [] _ rfl rfl (by decide) (by decide) (by decide) (by unfold I64; decide) (Row.nil _ _) (Row.nil _ _)).mono ?_
  rintro e w2 ⟨rfl, hb⟩
  have B := below_go (Below.refl _ _) hb
  replace bb := below_go bb B
  clear B hb
  rw [show wiD [] [] (0) = 0 by decide +kernel, show wiS [] [] (0) = 1 by decide +kernel, show wiE [] [] (0) = 0 by decide +kernel]
  go_wp2_with fail
  refine (within_w _ _ 1 2 1 2 (4611686018427387904) [3] [3, 4] _ rfl rfl (by decide) (by decide) (by decide) (by unfold I64; decide) ((row_lit (iv [3]) 3 (by simp)).alloc _) (row_lit (iv [3, 4]) 3 (by simp))).mono ?_
  rintro e w3 ⟨rfl, hb⟩
  have B := below_go (below_al (below_al (Below.refl _ _) _) _) hb
  replace bb := below_go bb B
  clear B hb
  rw [show wiD [3] [3, 4] (4611686018427387904) = 1 by decide +kernel, show wiS [3] [3, 4] (4611686018427387904) = 6 by decide +kernel, show wiE [3] [3, 4] (4611686018427387904) = 0 by decide +kernel]
  go_wp2_with fail
  refine (brun_any _ _ 2 2 2 2 [1, 2] [2, 1] _ rfl rfl (by decide) (by decide) (by decide) ((row_lit (iv [1, 2]) 3 (by simp)).alloc _) (row_lit (iv [2, 1]) 3 (by simp))).mono ?_
  rintro e w4 ⟨v, l, rfl, ⟨hG, hL⟩, hv, hb⟩
  have B := below_go (below_al (below_al (Below.refl _ _) _) _) hb
  replace bb := below_go bb B
  clear B hb
  obtain ⟨_, _, rfl, _, _, _, _⟩ := own_sliceS hv
  clear hv hG
  rw [hL, show lcs [1, 2] [2, 1] = 1 by decide +kernel, show dist [1, 2] [2, 1] = 2 by decide +kernel, show bndS (clQ ([1, 2] : List Int).length ([2, 1] : List Int).length) 2 (apN ([1, 2] : List Int).length ([2, 1] : List Int).length) = 13 from by rw [bndS_more (by decide), bndS_more (by decide), bndS_last (by decide)]; decide +kernel]
  clear hL
  go_wp2_with fail
  refine (brun_any _ _ 1 1 1 1 [7] [7] _ rfl rfl (by decide) (by decide) (by decide) ((row_lit (iv [7]) 3 (by simp)).alloc _) (row_lit (iv [7]) 3 (by simp))).mono ?_
  rintro e w5 ⟨v, l, rfl, ⟨hG, hL⟩, hv, hb⟩
  have B := below_go (below_al (below_al (Below.refl _ _) _) _) hb
  replace bb := below_go bb B
  clear B hb
  obtain ⟨_, _, rfl, _, _, _, _⟩ := own_sliceS hv
  clear hv hG
  rw [hL, show lcs [7] [7] = 1 by decide +kernel, show dist [7] [7] = 0 by decide +kernel, show bndS (clQ ([7] : List Int).length ([7] : List Int).length) 0 (apN ([7] : List Int).length ([7] : List Int).length) = 2 from by rw [bndS_last (by decide)]; decide +kernel]
  clear hL
  go_wp2_with fail
  refine (awake19 _).mono ?_
  rintro e w6 ⟨rfl, hb⟩
  have B := below_go (Below.refl _ _) hb
  replace bb := below_go bb B
  clear B hb
  go_wp2_with fail
  refine (cells_w (-1) (2) (5) _ (by unfold I64; decide)).mono ?_
  rintro e w7 ⟨rfl, hb⟩
  have B := below_go (Below.refl _ _) hb
  replace bb := below_go bb B
  clear B hb
  rw [show clI (-1) (2) (5) = 0 by decide +kernel]
  go_wp2_with fail
  refine (cells_w (2) (2) (-1) _ (by unfold I64; decide)).mono ?_
  rintro e w8 ⟨rfl, hb⟩
  have B := below_go (Below.refl _ _) hb
  replace bb := below_go bb B
  clear B hb
  rw [show clI (2) (2) (-1) = 0 by decide +kernel]
  go_wp2_with fail
  refine (cells_w (1099511627776) (2) (1) _ (by unfold I64; decide)).mono ?_
  rintro e w9 ⟨rfl, hb⟩
  have B := below_go (Below.refl _ _) hb
  replace bb := below_go bb B
  clear B hb
  rw [show clI (1099511627776) (2) (1) = 0 by decide +kernel]
  go_wp2_with fail
  refine (cells_w (2) (4) (1) _ (by unfold I64; decide)).mono ?_
  rintro e w10 ⟨rfl, hb⟩
  have B := below_go (Below.refl _ _) hb
  replace bb := below_go bb B
  clear B hb
  rw [show clI (2) (4) (1) = 0 by decide +kernel]
  go_wp2_with fail
  refine (cells_w (0) (3) (3) _ (by unfold I64; decide)).mono ?_
  rintro e w11 ⟨rfl, hb⟩
  have B := below_go (Below.refl _ _) hb
  replace bb := below_go bb B
  clear B hb
  rw [show clI (0) (3) (3) = 4 by decide +kernel]
  go_wp2_with fail
  go_ret
  exact Yes.of bb

/-! ### The row's step -/
theorem own : ownKnob Try.prog.godebug = none := by kernel_rfl
theorem laidOut : laidOutB Try.prog = true := by kernel_rfl

set_option maxRecDepth 100000 in
theorem contract (H : Type) (enc : TypeId × Value → H) (W : World) (base : Nat) (args : Array Value) (ds gs : List (DataW H)) (before : List MemPlace)
    (hval : ∀ (j : Nat) t v, Try.f3.params[j]? = some t → args[j]? = some v → Value.okWide Try.prog W .any base t v)
    (hW : DataW.Whole enc Try.prog Try.f3.params.toList Rows.bandKnownSpec.vars false W args.toList ds gs before) :
    Calls Try.prog 3 args W fun e W' => ∃ v, e = .returned v ∧ Rows.bandKnownSpec.post enc Try.prog Try.f3 false true false false W args v W' := by
  have hW' := hW
  obtain ⟨p, q, hA0, hV, rfl, hfz, hnd⟩ := hW
  have hA : DataW.TrodAll enc Try.prog W 0 (fun _ => true) true Try.f3.params.toList args.toList ds p := hA0
  rw [Try.params3] at hA
  obtain ⟨rfl, rfl, rfl⟩ := trodAll_none hA
  obtain ⟨rfl, rfl⟩ := trodVars_none hV
  clear hA0
  refine (bandKnown_walk  W ).mono fun e W' ⟨he, bel⟩ => ?_
  subst he
  exact ⟨_, rfl, _, _, _, [], _, [], hW', trodAll_mk1 (shut_bool Try.underlying4 _), trodAll_mk0, rfl, bel.frame _, fun h => by cases h⟩

set_option maxRecDepth 100000 in
theorem lifted (os : Os) (started : os.Started) (H : Type) (enc : TypeId × Value → H) :
    ReturnsInHanded {} Try.checked os 3 .any (Rows.bandKnownSpec.pre6 enc Try.prog Try.f3 Rows.bandKnownRow.domain false) (Rows.bandKnownSpec.post enc Try.prog Try.f3 false true false false) := by
  refine returnsInHanded_of_change (C := Try.checked) own started (by kernel_rfl) Try.func3
    (ChangeSpec.witness6 (enc := enc) (C := Try.checked) false ⟨#[], #[], []⟩ 8 (by kernel_rfl) (by kernel_rfl) (by kernel_rfl) (by kernel_rfl)) ?_
  intro W base args ds gs before hval hW _ _
  exact contract H enc W base args ds gs before hval hW

/-- The statement. -/
theorem proved : Rows.BandKnownSaid :=
  OpenClaim.holds_of_wide 3 Try.f3 rfl rfl rfl rfl rfl rfl rfl ⟨rfl, rfl, rfl, rfl, rfl⟩ rfl rfl rfl rfl rfl (by kernel_rfl) Try.func3 (by kernel_rfl)
    (of_decide_eq_true (by kernel_rfl)) (by unfold Func.isWrapper; first | (rw [if_pos (by decide +kernel)]; kernel_rfl) | (rw [if_neg (by decide +kernel)]; exact ⟨rfl, rfl⟩))
    (fun os started H enc _ => lifted os started H enc)

end Go.Proofs.Ythpinbmimgojnaa.bandKnownP
