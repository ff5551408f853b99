/-
  Proved: tattinglaw17.SnakeKnown returns true.
-/
import Derived.Test.YtdkcgehjokdnoaaAwake17
import Derived.Test.YtdkcgehjokdnoaaArgs
namespace Go.Proofs.Ytdkcgehjokdnoaa.snakeKnownP
open Go.ChangeShapes Go.WideShapes Go.ChangeAt Go.RowKit

set_option maxRecDepth 100000 in
set_option maxHeartbeats 3200000 in
theorem snakeKnown_walk (w : World) : Calls Try.prog 3 #[] w (Yes w) := by
  go_enter Try.func3, Try.ntmps3
  go_wp2_with fail
  refine (awake17 _).mono ?_
  rintro e w1 ⟨rfl, hb⟩
  have B := below_go (below_al (Below.refl _ _) _) hb
  have r_r : Row w1 (some ⟨w.heap.size, 0, none⟩) (iv [5, 5]) := Row.below (row_lit (iv [5, 5]) 3 (by simp)) hb
  have bb := B
  clear B hb
  go_wp2_with fail
  refine (down_any _ _ 2 2 2 2 (-1) (0) [5, 5] [5, 5] _ rfl rfl (by decide) (by decide) (by decide) (by decide) r_r r_r).mono ?_
  rintro e w2 ⟨rfl, q, hq⟩
  have hb := below_of hq
  clear hq
  have B := below_go (Below.refl _ _) hb
  replace r_r := r_r.below B
  replace bb := below_go bb B
  clear B hb
  rw [show dnI [5, 5] [5, 5] (-1) (0) = 0 by decide +kernel]
  go_wp2_with fail
  refine (down_any _ _ 2 2 2 2 (3) (0) [5, 5] [5, 5] _ rfl rfl (by decide) (by decide) (by decide) (by decide) r_r r_r).mono ?_
  rintro e w3 ⟨rfl, q, hq⟩
  have hb := below_of hq
  clear hq
  have B := below_go (Below.refl _ _) hb
  replace r_r := r_r.below B
  replace bb := below_go bb B
  clear B hb
  rw [show dnI [5, 5] [5, 5] (3) (0) = 0 by decide +kernel]
  go_wp2_with fail
  refine (down_any _ _ 2 2 2 2 (2) (2) [5, 5] [5, 5] _ rfl rfl (by decide) (by decide) (by decide) (by decide) r_r r_r).mono ?_
  rintro e w4 ⟨rfl, q, hq⟩
  have hb := below_of hq
  clear hq
  have B := below_go (Below.refl _ _) hb
  replace r_r := r_r.below B
  replace bb := below_go bb B
  clear B hb
  rw [show dnI [5, 5] [5, 5] (2) (2) = 0 by decide +kernel]
  go_wp2_with fail
  refine (down_any _ _ 2 2 2 2 (0) (1) [5, 5] [5, 5] _ rfl rfl (by decide) (by decide) (by decide) (by decide) r_r r_r).mono ?_
  rintro e w5 ⟨rfl, q, hq⟩
  have hb := below_of hq
  clear hq
  have B := below_go (Below.refl _ _) hb
  replace r_r := r_r.below B
  replace bb := below_go bb B
  clear B hb
  rw [show dnI [5, 5] [5, 5] (0) (1) = 1 by decide +kernel]
  go_wp2_with fail
  refine (up_any _ _ 2 2 2 2 (0) (0) [5, 5] [5, 5] _ rfl rfl (by decide) (by decide) r_r r_r).mono ?_
  rintro e w6 ⟨rfl, q, hq⟩
  have hb := below_of hq
  clear hq
  have B := below_go (Below.refl _ _) hb
  replace r_r := r_r.below B
  replace bb := below_go bb B
  clear B hb
  rw [show bkI [5, 5] [5, 5] (0) (0) = 0 by decide +kernel]
  go_wp2_with fail
  refine (up_any _ _ 2 2 2 2 (2) (1) [5, 5] [5, 5] _ rfl rfl (by decide) (by decide) r_r r_r).mono ?_
  rintro e w7 ⟨rfl, q, hq⟩
  have hb := below_of hq
  clear hq
  have B := below_go (Below.refl _ _) hb
  replace r_r := r_r.below B
  replace bb := below_go bb B
  clear B hb
  rw [show bkI [5, 5] [5, 5] (2) (1) = 1 by decide +kernel]
  go_wp2_with fail
  refine (up_any _ _ 2 2 2 2 (2) (3) [5, 5] [5, 5] _ rfl rfl (by decide) (by decide) r_r r_r).mono ?_
  rintro e w8 ⟨rfl, q, hq⟩
  have hb := below_of hq
  clear hq
  have B := below_go (Below.refl _ _) hb
  replace r_r := r_r.below B
  replace bb := below_go bb B
  clear B hb
  rw [show bkI [5, 5] [5, 5] (2) (3) = 0 by decide +kernel]
  go_wp2_with fail
  refine (slide_any _ _ 2 2 2 2 (0) (3) [5, 5] [5, 5] _ rfl rfl (by decide) (by decide) (by decide) (by decide) r_r r_r).mono ?_
  rintro e w9 ⟨rfl, q, hq⟩
  have hb := below_of hq
  clear hq
  have B := below_go (Below.refl _ _) hb
  replace r_r := r_r.below B
  replace bb := below_go bb B
  clear B hb
  rw [show slI [5, 5] [5, 5] (0) (3) = -1 by decide +kernel]
  go_wp2_with fail
  refine (slide_any _ _ 2 2 2 2 (3) (2) [5, 5] [5, 5] _ rfl rfl (by decide) (by decide) (by decide) (by decide) r_r r_r).mono ?_
  rintro e w10 ⟨rfl, q, hq⟩
  have hb := below_of hq
  clear hq
  have B := below_go (Below.refl _ _) hb
  replace r_r := r_r.below B
  replace bb := below_go bb B
  clear B hb
  rw [show slI [5, 5] [5, 5] (3) (2) = -1 by decide +kernel]
  go_wp2_with fail
  refine (slide_any _ _ 2 2 2 2 (-9223372036854775808) (0) [5, 5] [5, 5] _ rfl rfl (by decide) (by decide) (by decide) (by decide) r_r r_r).mono ?_
  rintro e w11 ⟨rfl, q, hq⟩
  have hb := below_of hq
  clear hq
  have B := below_go (Below.refl _ _) hb
  replace r_r := r_r.below B
  replace bb := below_go bb B
  clear B hb
  rw [show slI [5, 5] [5, 5] (-9223372036854775808) (0) = -1 by decide +kernel]
  go_wp2_with fail
  refine (slide_any _ _ 2 2 2 2 (2) (2) [5, 5] [5, 5] _ rfl rfl (by decide) (by decide) (by decide) (by decide) r_r r_r).mono ?_
  rintro e w12 ⟨rfl, q, hq⟩
  have hb := below_of hq
  clear hq
  have B := below_go (Below.refl _ _) hb
  replace r_r := r_r.below B
  replace bb := below_go bb B
  clear B hb
  rw [show slI [5, 5] [5, 5] (2) (2) = 2 by decide +kernel]
  go_wp2_with fail
  refine (slide_any _ _ 0 0 0 0 (0) (0) [] [] _ rfl rfl (by decide) (by decide) (by decide) (by decide) (Row.nil _ _) (Row.nil _ _)).mono ?_
  rintro e w13 ⟨rfl, q, hq⟩
  have hb := below_of hq
  clear hq
  have B := below_go (Below.refl _ _) hb
  replace r_r := r_r.below B
  replace bb := below_go bb B
  clear B hb
  rw [show slI [] [] (0) (0) = 0 by decide +kernel]
  go_wp2_with fail
  go_ret
  exact Yes.of bb

/-! ### The row's step -/
theorem own : ownKnob Try.prog.godebug = none := by kernel_rfl
theorem laidOut : laidOutB Try.prog = true := by kernel_rfl

set_option maxRecDepth 100000 in
theorem contract (H : Type) (enc : TypeId × Value → H) (W : World) (base : Nat) (args : Array Value) (ds gs : List (DataW H)) (before : List MemPlace)
    (hval : ∀ (j : Nat) t v, Try.f3.params[j]? = some t → args[j]? = some v → Value.okWide Try.prog W .any base t v)
    (hW : DataW.Whole enc Try.prog Try.f3.params.toList Rows.snakeKnownSpec.vars false W args.toList ds gs before) :
    Calls Try.prog 3 args W fun e W' => ∃ v, e = .returned v ∧ Rows.snakeKnownSpec.post enc Try.prog Try.f3 false true false false W args v W' := by
  have hW' := hW
  obtain ⟨p, q, hA0, hV, rfl, hfz, hnd⟩ := hW
  have hA : DataW.TrodAll enc Try.prog W 0 (fun _ => true) true Try.f3.params.toList args.toList ds p := hA0
  rw [Try.params3] at hA
  obtain ⟨rfl, rfl, rfl⟩ := trodAll_none hA
  obtain ⟨rfl, rfl⟩ := trodVars_none hV
  clear hA0
  refine (snakeKnown_walk  W ).mono fun e W' ⟨he, bel⟩ => ?_
  subst he
  exact ⟨_, rfl, _, _, _, [], _, [], hW', trodAll_mk1 (shut_bool Try.underlying4 _), trodAll_mk0, rfl, bel.frame _, fun h => by cases h⟩

set_option maxRecDepth 100000 in
theorem lifted (os : Os) (started : os.Started) (H : Type) (enc : TypeId × Value → H) :
    ReturnsInHanded {} Try.checked os 3 .any (Rows.snakeKnownSpec.pre6 enc Try.prog Try.f3 Rows.snakeKnownRow.domain false) (Rows.snakeKnownSpec.post enc Try.prog Try.f3 false true false false) := by
  refine returnsInHanded_of_change (C := Try.checked) own started (by kernel_rfl) Try.func3
    (ChangeSpec.witness6 (enc := enc) (C := Try.checked) false ⟨#[], #[], []⟩ 8 (by kernel_rfl) (by kernel_rfl) (by kernel_rfl) (by kernel_rfl)) ?_
  intro W base args ds gs before hval hW _ _
  exact contract H enc W base args ds gs before hval hW

/-- The statement. -/
theorem proved : Rows.SnakeKnownSaid :=
  OpenClaim.holds_of_wide 3 Try.f3 rfl rfl rfl rfl rfl rfl rfl ⟨rfl, rfl, rfl, rfl, rfl⟩ rfl rfl rfl rfl rfl (by kernel_rfl) Try.func3 (by kernel_rfl)
    (of_decide_eq_true (by kernel_rfl)) (by unfold Func.isWrapper; first | (rw [if_pos (by decide +kernel)]; kernel_rfl) | (rw [if_neg (by decide +kernel)]; exact ⟨rfl, rfl⟩))
    (fun os started H enc _ => lifted os started H enc)

end Go.Proofs.Ytdkcgehjokdnoaa.snakeKnownP
