/-
  Proved: tattinglaw12.DeltaKnown returns true.
-/
import Derived.Test.YtakefhmahngdeaaAwake12
import Derived.Test.YtakefhmahngdeaaArgs
namespace Go.Proofs.Ytakefhmahngdeaa.deltaKnownP
open Go.ChangeShapes Go.WideShapes Go.ChangeAt Go.RowKit

set_option maxRecDepth 100000 in
set_option maxHeartbeats 3200000 in
theorem deltaKnown_walk (w : World) : Calls Try.prog 3 #[] w (Yes w) := by
  go_enter Try.func3, Try.ntmps3
  go_wp2_with fail
  refine (awake12 _).mono ?_
  rintro e w1 ⟨rfl, hb⟩
  have B := below_go (Below.refl _ _) hb
  have bb := B
  clear B hb
  go_wp2_with fail
  refine (of_known _ 0 0 [] [] 0 1 _ rfl (by decide) (Nat.le_refl _) (by decide +kernel) (by decide +kernel) rfl (Row.nil _ _)).mono ?_
  rintro e w2 ⟨v, rfl, hv, hb⟩
  have B := below_go (Below.refl _ _) hb
  replace bb := below_go bb B
  clear B hb
  obtain ⟨V_e, c_e, rfl, _, _, r_e, _⟩ := own_slice hv
  clear hv
  clear r_e
  go_wp2_with fail
  refine (of_known _ 2 2 [1, 0] [] 0 1 _ rfl (by decide) (Nat.le_refl _) (by decide +kernel) (by decide +kernel) rfl (row_lit (iv [1, 0]) 3 (by simp))).mono ?_
  rintro e w3 ⟨v, rfl, hv, hb⟩
  have B := below_go (below_al (Below.refl _ _) _) hb
  have r_a : Row w3 (some ⟨w2.heap.size, 0, none⟩) (iv [1, 0]) := Row.below (row_lit (iv [1, 0]) 3 (by simp)) hb
  replace bb := below_go bb B
  clear B hb
  obtain ⟨V_f, c_f, rfl, _, _, r_f, _⟩ := own_slice hv
  clear hv
  clear r_f
  clear r_a
  go_wp2_with fail
  refine (of_known _ 2 2 [1, 3] [] 0 1 _ rfl (by decide) (Nat.le_refl _) (by decide +kernel) (by decide +kernel) rfl (row_lit (iv [1, 3]) 3 (by simp))).mono ?_
  rintro e w4 ⟨v, rfl, hv, hb⟩
  have B := below_go (below_al (Below.refl _ _) _) hb
  have r_a : Row w4 (some ⟨w3.heap.size, 0, none⟩) (iv [1, 3]) := Row.below (row_lit (iv [1, 3]) 3 (by simp)) hb
  replace bb := below_go bb B
  clear B hb
  obtain ⟨V_g, c_g, rfl, _, _, r_g, _⟩ := own_slice hv
  clear hv
  clear r_g
  clear r_a
  go_wp2_with fail
  refine (of_known _ 2 2 [9223372036854775807, -9223372036854775808] [] 0 1 _ rfl (by decide) (Nat.le_refl _) (by decide +kernel) (by decide +kernel) rfl (row_lit (iv [9223372036854775807, -9223372036854775808]) 3 (by simp))).mono ?_
  rintro e w5 ⟨v, rfl, hv, hb⟩
  have B := below_go (below_al (Below.refl _ _) _) hb
  have r_a : Row w5 (some ⟨w4.heap.size, 0, none⟩) (iv [9223372036854775807, -9223372036854775808]) := Row.below (row_lit (iv [9223372036854775807, -9223372036854775808]) 3 (by simp)) hb
  replace bb := below_go bb B
  clear B hb
  obtain ⟨V_h, c_h, rfl, _, _, r_h, _⟩ := own_slice hv
  clear hv
  clear r_h
  clear r_a
  go_wp2_with fail
  refine (of_known _ 1 1 [9] [] 0 0 _ rfl (by decide) (Nat.le_refl _) (by decide +kernel) (by decide +kernel) rfl (row_lit (iv [9]) 3 (by simp))).mono ?_
  rintro e w6 ⟨v, rfl, hv, hb⟩
  have B := below_go (below_al (Below.refl _ _) _) hb
  have r_a : Row w6 (some ⟨w5.heap.size, 0, none⟩) (iv [9]) := Row.below (row_lit (iv [9]) 3 (by simp)) hb
  replace bb := below_go bb B
  clear B hb
  obtain ⟨V_i, c_i, rfl, _, _, r_i, _⟩ := own_slice hv
  clear hv
  clear r_i
  clear r_a
  go_wp2_with fail
  refine (row_known 5 _ 3 3 [0, 7, 1] [5, 5, 6, 7] 4 _ rfl (by decide) (by decide +kernel) rfl (row_lit (bv [0, 7, 1]) 5 (by simp))).mono ?_
  rintro e w7 ⟨v, rfl, hv, hb⟩
  have B := below_go (below_al (Below.refl _ _) _) hb
  have r_b : Row w7 (some ⟨w6.heap.size, 0, none⟩) (bv [0, 7, 1]) := Row.below (row_lit (bv [0, 7, 1]) 5 (by simp)) hb
  replace bb := below_go bb B
  clear B hb
  obtain ⟨V_r, c_r, rfl, _, _, r_r, _⟩ := own_slice hv
  clear hv
  clear r_b
  go_wp2_with fail
  refine (sameInts_any _ _ 4 4 _ _ [5, 5, 6, 7] [5, 5, 6, 7] _ rfl rfl (by decide) (r_r.alloc _) (row_lit (iv [5, 5, 6, 7]) 3 (by simp))).mono ?_
  rintro e w8 ⟨rfl, q, hq⟩
  have hb := below_of hq
  clear hq
  have B := below_go (below_al (Below.refl _ _) _) hb
  have r_a : Row w8 (some ⟨w7.heap.size, 0, none⟩) (iv [5, 5, 6, 7]) := Row.below (row_lit (iv [5, 5, 6, 7]) 3 (by simp)) hb
  replace r_r := r_r.below B
  replace bb := below_go bb B
  clear B hb
  rw [show decide (([5, 5, 6, 7] : List Int) = [5, 5, 6, 7]) = true by decide]
  clear r_r
  clear r_a
  go_wp2_with fail
  refine (key_known _ 2 2 [9, 9] 0 4 0 _ rfl (by decide) (Nat.le_refl _) (by decide) (by decide) (by decide +kernel) (row_lit (bv [9, 9]) 5 (by simp))).mono ?_
  rintro e w9 ⟨rfl, hb⟩
  have B := below_go (below_al (Below.refl _ _) _) hb
  have r_b : Row w9 (some ⟨w8.heap.size, 0, none⟩) (bv [9, 9]) := Row.below (row_lit (bv [9, 9]) 5 (by simp)) hb
  replace bb := below_go bb B
  clear B hb
  clear r_b
  go_wp2_with fail
  refine (key_known _ 2 2 [9, 9] (-1) 2 0 _ rfl (by decide) (Nat.le_refl _) (by decide) (by decide) (by decide +kernel) (row_lit (bv [9, 9]) 5 (by simp))).mono ?_
  rintro e w10 ⟨rfl, hb⟩
  have B := below_go (below_al (Below.refl _ _) _) hb
  have r_b : Row w10 (some ⟨w9.heap.size, 0, none⟩) (bv [9, 9]) := Row.below (row_lit (bv [9, 9]) 5 (by simp)) hb
  replace bb := below_go bb B
  clear B hb
  clear r_b
  go_wp2_with fail
  refine (key_known _ 2 2 [9, 9] 0 2 3 _ rfl (by decide) (Nat.le_refl _) (by decide) (by decide) (by decide +kernel) (row_lit (bv [9, 9]) 5 (by simp))).mono ?_
  rintro e w11 ⟨rfl, hb⟩
  have B := below_go (below_al (Below.refl _ _) _) hb
  have r_b : Row w11 (some ⟨w10.heap.size, 0, none⟩) (bv [9, 9]) := Row.below (row_lit (bv [9, 9]) 5 (by simp)) hb
  replace bb := below_go bb B
  clear B hb
  clear r_b
  go_wp2_with fail
  refine (key_known _ 1 1 [1] 4611686018427387904 2 0 _ rfl (by decide) (Nat.le_refl _) (by decide) (by decide) (by decide +kernel) (row_lit (bv [1]) 5 (by simp))).mono ?_
  rintro e w12 ⟨rfl, hb⟩
  have B := below_go (below_al (Below.refl _ _) _) hb
  have r_b : Row w12 (some ⟨w11.heap.size, 0, none⟩) (bv [1]) := Row.below (row_lit (bv [1]) 5 (by simp)) hb
  replace bb := below_go bb B
  clear B hb
  clear r_b
  go_wp2_with fail
  refine (put_known _ 3 3 [7, 7, 7] 1 3 5 [7, 1, 0] _ rfl (by decide) (by decide) (by decide) (by decide +kernel) (row_lit (bv [7, 7, 7]) 5 (by simp))).mono ?_
  rintro e w13 ⟨v, rfl, hv, hb⟩
  have B := below_go (below_al (Below.refl _ _) _) hb
  have r_b : Row w13 (some ⟨w12.heap.size, 0, none⟩) (bv [7, 7, 7]) := Row.below (row_lit (bv [7, 7, 7]) 5 (by simp)) hb
  replace bb := below_go bb B
  clear B hb
  obtain ⟨V_p, c_p, rfl, _, _, r_p, _⟩ := own_slice hv
  clear hv
  clear r_b
  go_wp2_with fail
  refine (sameB _ _ 3 3 _ _ [7, 1, 0] [7, 1, 0] _ rfl rfl (r_p.alloc _) (row_lit (bv [7, 1, 0]) 5 (by simp))).mono ?_
  rintro e w14 ⟨rfl, hb⟩
  have B := below_go (below_al (Below.refl _ _) _) hb
  have r_b : Row w14 (some ⟨w13.heap.size, 0, none⟩) (bv [7, 1, 0]) := Row.below (row_lit (bv [7, 1, 0]) 5 (by simp)) hb
  replace r_p := r_p.below B
  replace bb := below_go bb B
  clear B hb
  rw [show decide (([7, 1, 0] : List UInt8) = [7, 1, 0]) = true by decide]
  clear r_p
  clear r_b
  go_wp2_with fail
  refine (put_known _ 1 1 [7] 0 0 1 [7] _ rfl (by decide) (by decide) (by decide) (by decide +kernel) (row_lit (bv [7]) 5 (by simp))).mono ?_
  rintro e w15 ⟨v, rfl, hv, hb⟩
  have B := below_go (below_al (Below.refl _ _) _) hb
  have r_b : Row w15 (some ⟨w14.heap.size, 0, none⟩) (bv [7]) := Row.below (row_lit (bv [7]) 5 (by simp)) hb
  replace bb := below_go bb B
  clear B hb
  obtain ⟨V_p, c_p, rfl, _, _, r_p, _⟩ := own_slice hv
  clear hv
  clear r_b
  go_wp2_with fail
  refine (sameB _ _ 1 1 _ _ [7] [7] _ rfl rfl (r_p.alloc _) (row_lit (bv [7]) 5 (by simp))).mono ?_
  rintro e w16 ⟨rfl, hb⟩
  have B := below_go (below_al (Below.refl _ _) _) hb
  have r_b : Row w16 (some ⟨w15.heap.size, 0, none⟩) (bv [7]) := Row.below (row_lit (bv [7]) 5 (by simp)) hb
  replace r_p := r_p.below B
  replace bb := below_go bb B
  clear B hb
  rw [show decide (([7] : List UInt8) = [7]) = true by decide]
  clear r_p
  clear r_b
  go_wp2_with fail
  go_ret
  exact Yes.of bb

/-! ### The row's step -/
theorem own : ownKnob Try.prog.godebug = none := by kernel_rfl
theorem laidOut : laidOutB Try.prog = true := by kernel_rfl

theorem contract (H : Type) (enc : TypeId × Value → H) (W : World) (base : Nat) (args : Array Value) (ds gs : List (DataW H)) (before : List MemPlace)
    (hval : ∀ (j : Nat) t v, Try.f3.params[j]? = some t → args[j]? = some v → Value.okWide Try.prog W .any base t v)
    (hW : DataW.Whole enc Try.prog Try.f3.params.toList Rows.deltaKnownSpec.vars false W args.toList ds gs before) :
    Calls Try.prog 3 args W fun e W' => ∃ v, e = .returned v ∧ Rows.deltaKnownSpec.post enc Try.prog Try.f3 false true false false W args v W' := by
  have hW' := hW
  obtain ⟨p, q, hA0, hV, rfl, hfz, hnd⟩ := hW
  have hA : DataW.TrodAll enc Try.prog W 0 (fun _ => true) true Try.f3.params.toList args.toList ds p := hA0
  rw [Try.params3] at hA
  obtain ⟨rfl, rfl, rfl⟩ := trodAll_none hA
  obtain ⟨rfl, rfl⟩ := trodVars_none hV
  clear hA0
  refine (deltaKnown_walk  W ).mono fun e W' ⟨he, bel⟩ => ?_
  subst he
  exact ⟨_, rfl, _, _, _, [], _, [], hW', trodAll_mk1 (shut_bool Try.underlying4 _), trodAll_mk0, rfl, bel.frame _, fun h => by cases h⟩

set_option maxRecDepth 100000 in
theorem lifted (os : Os) (started : os.Started) (H : Type) (enc : TypeId × Value → H) :
    ReturnsInHanded {} Try.checked os 3 .any (Rows.deltaKnownSpec.pre6 enc Try.prog Try.f3 Rows.deltaKnownRow.domain false) (Rows.deltaKnownSpec.post enc Try.prog Try.f3 false true false false) := by
  refine returnsInHanded_of_change (C := Try.checked) own started (by kernel_rfl) Try.func3
    (ChangeSpec.witness6 (enc := enc) (C := Try.checked) false ⟨#[], #[], []⟩ 8 (by kernel_rfl) (by kernel_rfl) (by kernel_rfl) (by kernel_rfl)) ?_
  intro W base args ds gs before hval hW _ _
  exact contract H enc W base args ds gs before hval hW

/-- The statement. -/
theorem proved : Rows.DeltaKnownSaid :=
  OpenClaim.holds_of_wide 3 Try.f3 rfl rfl rfl rfl rfl rfl rfl ⟨rfl, rfl, rfl, rfl, rfl⟩ rfl rfl rfl rfl rfl (by kernel_rfl) Try.func3 (by kernel_rfl)
    (of_decide_eq_true (by kernel_rfl)) (by unfold Func.isWrapper; first | (rw [if_pos (by decide +kernel)]; kernel_rfl) | (rw [if_neg (by decide +kernel)]; exact ⟨rfl, rfl⟩))
    (fun os started H enc _ => lifted os started H enc)

end Go.Proofs.Ytakefhmahngdeaa.deltaKnownP
