/-
  Proved: tattinglaw16.HuntKnown returns true.
-/
import Derived.Test.YtmhnciljbdflcaaM28
import Derived.Test.YtmhnciljbdflcaaM29
namespace Go.Proofs.Ytmhnciljbdflcaa.huntKnownP
open Go.ChangeShapes Go.WideShapes Go.ChangeAt Go.RowKit

set_option maxRecDepth 100000 in
set_option maxHeartbeats 3200000 in
theorem huntKnown_walk (w : World) : Calls Try.prog 3 #[] w (Yes w) := by
  go_enter Try.func3, Try.ntmps3
  go_wp2_with fail
  refine (hrun_any _ _ 2 1 _ _ [1, 2] [3] _ rfl rfl (by decide) (by decide) ((row_lit (iv [1, 2]) 3 (by simp)).alloc _) (row_lit (iv [3]) 3 (by simp)) (by decide) (by decide)).mono ?_
  rintro e w1 ⟨v, l, rfl, ⟨hG, hL⟩, hv, hb⟩
  have B := below_go (below_al (below_al (Below.refl _ _) _) _) hb
  have bb := B
  clear B hb
  obtain ⟨_, _, rfl, _, _, _, _⟩ := own_sliceS hv
  clear hv hG
  rw [hL, show lcs [1, 2] [3] = 0 by decide +kernel, show alike [1, 2] [3] = 0 by decide +kernel]
  clear hL
  go_wp2_with fail
  refine (hrun_any _ _ 0 1 _ _ [] [1] _ rfl rfl (by decide) (by decide) (Row.nil _ _) (row_lit (iv [1]) 3 (by simp)) (by decide) (by decide)).mono ?_
  rintro e w2 ⟨v, l, rfl, ⟨hG, hL⟩, hv, hb⟩
  have B := below_go (below_al (Below.refl _ _) _) hb
  replace bb := below_go bb B
  clear B hb
  obtain ⟨_, _, rfl, _, _, _, _⟩ := own_sliceS hv
  clear hv hG
  rw [hL, show lcs [] [1] = 0 by decide +kernel, show alike [] [1] = 0 by decide +kernel]
  clear hL
  go_wp2_with fail
  refine (hrun_any _ _ 2 3 _ _ [6, 6] [6, 6, 6] _ rfl rfl (by decide) (by decide) ((row_lit (iv [6, 6]) 3 (by simp)).alloc _) (row_lit (iv [6, 6, 6]) 3 (by simp)) (by decide) (by decide)).mono ?_
  rintro e w3 ⟨v, l, rfl, ⟨hG, hL⟩, hv, hb⟩
  have B := below_go (below_al (below_al (Below.refl _ _) _) _) hb
  replace bb := below_go bb B
  clear B hb
  obtain ⟨_, _, rfl, _, _, _, _⟩ := own_sliceS hv
  clear hv hG
  rw [hL, show lcs [6, 6] [6, 6, 6] = 2 by decide +kernel, show alike [6, 6] [6, 6, 6] = 6 by decide +kernel]
  clear hL
  go_wp2_with fail
  refine (awake16 _).mono ?_
  rintro e w4 ⟨rfl, hb⟩
  have B := below_go (Below.refl _ _) hb
  replace bb := below_go bb B
  clear B hb
  go_wp2_with fail
  refine (hthr_any _ _ 1 0 _ _ [1] [] _ rfl rfl (by decide) (by decide) (row_lit (iv [1]) 3 (by simp)) (Row.nil _ _) (by decide) (by decide)).mono ?_
  rintro e w5 ⟨v, rfl, hv, hb⟩
  have B := below_go (below_al (Below.refl _ _) _) hb
  replace bb := below_go bb B
  clear B hb
  rw [show thrL (px [1] [] 1) 0 = [] by decide +kernel] at hv
  obtain ⟨V_x, c_x, rfl, _, _, r_x, _⟩ := own_slice hv
  clear hv
  clear r_x
  go_wp2_with fail
  refine (hits_any _ _ 0 1 _ _ [] [1] _ rfl rfl (by decide) (by decide) (Row.nil _ _) (row_lit (iv [1]) 3 (by simp)) (by decide) (by decide)).mono ?_
  rintro e w6 ⟨rfl, hb⟩
  have B := below_go (below_al (Below.refl _ _) _) hb
  replace bb := below_go bb B
  clear B hb
  rw [show alike [] [1] = 0 by decide +kernel]
  go_wp2_with fail
  go_ret
  exact Yes.of bb

/-! ### The row's step -/
theorem own : ownKnob Try.prog.godebug = none := by kernel_rfl
theorem laidOut : laidOutB Try.prog = true := by kernel_rfl

set_option maxRecDepth 100000 in
theorem contract (H : Type) (enc : TypeId × Value → H) (W : World) (base : Nat) (args : Array Value) (ds gs : List (DataW H)) (before : List MemPlace)
    (hval : ∀ (j : Nat) t v, Try.f3.params[j]? = some t → args[j]? = some v → Value.okWide Try.prog W .any base t v)
    (hW : DataW.Whole enc Try.prog Try.f3.params.toList Rows.huntKnownSpec.vars false W args.toList ds gs before) :
    Calls Try.prog 3 args W fun e W' => ∃ v, e = .returned v ∧ Rows.huntKnownSpec.post enc Try.prog Try.f3 false true false false W args v W' := by
  have hW' := hW
  obtain ⟨p, q, hA0, hV, rfl, hfz, hnd⟩ := hW
  have hA : DataW.TrodAll enc Try.prog W 0 (fun _ => true) true Try.f3.params.toList args.toList ds p := hA0
  rw [Try.params3] at hA
  obtain ⟨rfl, rfl, rfl⟩ := trodAll_none hA
  obtain ⟨rfl, rfl⟩ := trodVars_none hV
  clear hA0
  refine (huntKnown_walk  W ).mono fun e W' ⟨he, bel⟩ => ?_
  subst he
  exact ⟨_, rfl, _, _, _, [], _, [], hW', trodAll_mk1 (shut_bool Try.underlying4 _), trodAll_mk0, rfl, bel.frame _, fun h => by cases h⟩

set_option maxRecDepth 100000 in
theorem lifted (os : Os) (started : os.Started) (H : Type) (enc : TypeId × Value → H) :
    ReturnsInHanded {} Try.checked os 3 .any (Rows.huntKnownSpec.pre6 enc Try.prog Try.f3 Rows.huntKnownRow.domain false) (Rows.huntKnownSpec.post enc Try.prog Try.f3 false true false false) := by
  refine returnsInHanded_of_change (C := Try.checked) own started (by kernel_rfl) Try.func3
    (ChangeSpec.witness6 (enc := enc) (C := Try.checked) false ⟨#[], #[], []⟩ 8 (by kernel_rfl) (by kernel_rfl) (by kernel_rfl) (by kernel_rfl)) ?_
  intro W base args ds gs before hval hW _ _
  exact contract H enc W base args ds gs before hval hW

/-- The statement. -/
theorem proved : Rows.HuntKnownSaid :=
  OpenClaim.holds_of_wide 3 Try.f3 rfl rfl rfl rfl rfl rfl rfl ⟨rfl, rfl, rfl, rfl, rfl⟩ rfl rfl rfl rfl rfl (by kernel_rfl) Try.func3 (by kernel_rfl)
    (of_decide_eq_true (by kernel_rfl)) (by unfold Func.isWrapper; first | (rw [if_pos (by decide +kernel)]; kernel_rfl) | (rw [if_neg (by decide +kernel)]; exact ⟨rfl, rfl⟩))
    (fun os started H enc _ => lifted os started H enc)

end Go.Proofs.Ytmhnciljbdflcaa.huntKnownP
