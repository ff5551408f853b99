/-
  Proved: tattinglaw14.RussKnown returns true.
-/
import Derived.Test.YtdedmmeefffpkaaM26
import Derived.Test.YtdedmmeefffpkaaM27
namespace Go.Proofs.Ytdedmmeefffpkaa.russKnownP
open Go.ChangeShapes Go.WideShapes Go.ChangeAt Go.RowKit

set_option maxRecDepth 100000 in
set_option maxHeartbeats 3200000 in
theorem russKnown_walk (w : World) : Calls Try.prog 3 #[] w (Yes w) := by
  go_enter Try.func3, Try.ntmps3
  go_wp2_with fail
  refine (of14_any 2 2 _ (by decide) (by decide) (by decide)).mono ?_
  rintro e w1 ⟨x, rfl, hT, h0, bb⟩
  go_wp2_with fail
  refine (awake14 _).mono ?_
  rintro e w2 ⟨rfl, hb⟩
  replace hT := hT.below hb
  replace bb := below_go bb hb
  clear hb
  go_wp2_with fail
  refine (len_nil _ _ _ _ _ _ _).mono ?_
  rintro e w' ⟨rfl, rfl⟩
  go_wp2_with fail
  refine (run_nil _ _ _ _ _ _ _).mono ?_
  rintro e w3 ⟨rfl, hw⟩
  have hb : Below w2.heap.size w2 w3 := by rw [← hw]; exact below_al (below_al (Below.refl _ _) _) _
  replace hT := hT.below hb
  replace bb := below_go bb hb
  clear hb hw
  have hx := hT.lt
  go_wp2_with fail
  refine (run_w 3 x _ _ 0 1 _ _ [] [1] w _ (by decide) rfl rfl (by decide) (by decide) (by decide) (by decide) ⟨Row.nil _ _, fun h => absurd rfl h⟩ (litN (row_lit (iv [1]) 3 (by simp)) hx) (hT.below (below_al (Below.refl _ _) _)) (below_go bb (below_al (Below.refl _ _) _)) h0).mono ?_
  rintro e w4 ⟨R, V, cR, rfl, _, _, hT, bb, _⟩
  rw [show lcs [] [1] = 0 by decide +kernel, show upN 0 3 * upN 1 3 = 0 by decide]
  clear hx
  have hx := hT.lt
  go_wp2_with fail
  refine (run_w 3 x _ _ 1 1 _ _ [0] [0] w _ (by decide) rfl rfl (by decide) (by decide) (by decide) (by decide) (litN ((row_lit (iv [0]) 3 (by simp)).alloc _) hx) (litN (row_lit (iv [0]) 3 (by simp)) (by omega)) (hT.below (below_al (below_al (Below.refl _ _) _) _)) (below_go bb (below_al (below_al (Below.refl _ _) _) _)) h0).mono ?_
  rintro e w5 ⟨R, V, cR, rfl, _, _, hT, bb, _⟩
  rw [show lcs [0] [0] = 1 by decide +kernel, show upN 1 3 * upN 1 3 = 1 by decide]
  go_wp2_with fail
  go_ret
  exact Yes.of bb

/-! ### The row's step -/
theorem own : ownKnob Try.prog.godebug = none := by kernel_rfl
theorem laidOut : laidOutB Try.prog = true := by kernel_rfl

set_option maxRecDepth 100000 in
theorem contract (H : Type) (enc : TypeId × Value → H) (W : World) (base : Nat) (args : Array Value) (ds gs : List (DataW H)) (before : List MemPlace)
    (hval : ∀ (j : Nat) t v, Try.f3.params[j]? = some t → args[j]? = some v → Value.okWide Try.prog W .any base t v)
    (hW : DataW.Whole enc Try.prog Try.f3.params.toList Rows.russKnownSpec.vars false W args.toList ds gs before) :
    Calls Try.prog 3 args W fun e W' => ∃ v, e = .returned v ∧ Rows.russKnownSpec.post enc Try.prog Try.f3 false true false false W args v W' := by
  have hW' := hW
  obtain ⟨p, q, hA0, hV, rfl, hfz, hnd⟩ := hW
  have hA : DataW.TrodAll enc Try.prog W 0 (fun _ => true) true Try.f3.params.toList args.toList ds p := hA0
  rw [Try.params3] at hA
  obtain ⟨rfl, rfl, rfl⟩ := trodAll_none hA
  obtain ⟨rfl, rfl⟩ := trodVars_none hV
  clear hA0
  refine (russKnown_walk  W ).mono fun e W' ⟨he, bel⟩ => ?_
  subst he
  exact ⟨_, rfl, _, _, _, [], _, [], hW', trodAll_mk1 (shut_bool Try.underlying4 _), trodAll_mk0, rfl, bel.frame _, fun h => by cases h⟩

set_option maxRecDepth 100000 in
theorem lifted (os : Os) (started : os.Started) (H : Type) (enc : TypeId × Value → H) :
    ReturnsInHanded {} Try.checked os 3 .any (Rows.russKnownSpec.pre6 enc Try.prog Try.f3 Rows.russKnownRow.domain false) (Rows.russKnownSpec.post enc Try.prog Try.f3 false true false false) := by
  refine returnsInHanded_of_change (C := Try.checked) own started (by kernel_rfl) Try.func3
    (ChangeSpec.witness6 (enc := enc) (C := Try.checked) false ⟨#[], #[], []⟩ 8 (by kernel_rfl) (by kernel_rfl) (by kernel_rfl) (by kernel_rfl)) ?_
  intro W base args ds gs before hval hW _ _
  exact contract H enc W base args ds gs before hval hW

/-- The statement. -/
theorem proved : Rows.RussKnownSaid :=
  OpenClaim.holds_of_wide 3 Try.f3 rfl rfl rfl rfl rfl rfl rfl ⟨rfl, rfl, rfl, rfl, rfl⟩ rfl rfl rfl rfl rfl (by kernel_rfl) Try.func3 (by kernel_rfl)
    (of_decide_eq_true (by kernel_rfl)) (by unfold Func.isWrapper; first | (rw [if_pos (by decide +kernel)]; kernel_rfl) | (rw [if_neg (by decide +kernel)]; exact ⟨rfl, rfl⟩))
    (fun os started H enc _ => lifted os started H enc)

end Go.Proofs.Ytdedmmeefffpkaa.russKnownP
