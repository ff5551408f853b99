/-
  Proved: tattinglaw22.WalkKnown returns true.
-/
import Derived.Test.YtncbhnmhaoblaaaM44
import Derived.Test.YtncbhnmhaoblaaaM9
namespace Go.Proofs.Ytncbhnmhaoblaaa.walkKnownP
open Go.ChangeShapes Go.WideShapes Go.ChangeAt Go.RowKit

set_option maxRecDepth 100000 in
set_option maxHeartbeats 3200000 in
theorem walkKnown_walk (w : World) : Calls Try.prog 3 #[] w (Yes w) := by
  have hpe : ∀ w, (binOp BinOp.eql 29 (Value.agg #[.int .i64 1, .int .i64 0]) (Value.agg #[.int .i64 1, .int .i64 0])).run Try.prog w = .ok (.bool true) w := fun _ => by kernel_rfl
  go_enter Try.func3, Try.ntmps3
  go_wp2_with fail
  refine (wrun_none (2) (1) none none 0 0 0 0 _ (by decide)).mono ?_
  rintro e w1 ⟨rfl, e0⟩
  have hb := below_same e0.symm
  clear e0
  have B := below_go (Below.refl _ _) hb
  have bb := B
  clear B hb
  go_wp2_with fail
  refine (wrun_none (-1) (1) none none 0 0 0 0 _ (by decide)).mono ?_
  rintro e w2 ⟨rfl, e0⟩
  have hb := below_same e0.symm
  clear e0
  have B := below_go (Below.refl _ _) hb
  replace bb := below_go bb B
  clear B hb
  go_wp2_with fail
  refine (wrun_none (1) (0) none none 0 0 0 0 _ (by decide)).mono ?_
  rintro e w3 ⟨rfl, e0⟩
  have hb := below_same e0.symm
  clear e0
  have B := below_go (Below.refl _ _) hb
  replace bb := below_go bb B
  clear B hb
  go_wp2_with fail
  refine (wrun_w (1) (7) _ _ 2 2 2 2 [1, 2] [2, 1] [(1, 0)] 4 _ rfl rfl (by decide) (by decide) (by decide) (by unfold I64; decide) ((row_lit (iv [1, 2]) 3 (by simp)).alloc _) (row_lit (iv [2, 1]) 3 (by simp)) (by decide) (by decide) (by decide) (by decide +kernel) (by decide +kernel)).mono ?_
  rintro e w4 ⟨v, rfl, hv, hb⟩
  obtain ⟨V_l, c_l, rfl, _, _, r_l, _⟩ := own_sliceS hv
  clear hv
  have B := below_go (below_al (below_al (Below.refl _ _) _) _) hb
  replace bb := below_go bb B
  clear B hb
  go_wp2_with fail
  refine (wrun_w (0) (4611686018427387904) _ _ 0 1 0 1 [] [1] [] 0 _ rfl rfl (by decide) (by decide) (by decide) (by unfold I64; decide) (Row.nil _ _) (row_lit (iv [1]) 3 (by simp)) (by decide) (by decide) (by decide) (by decide +kernel) (by decide +kernel)).mono ?_
  rintro e w5 ⟨v, rfl, hv, hb⟩
  obtain ⟨V_m, c_m, rfl, _, _, r_m, _⟩ := own_sliceS hv
  clear hv
  have B := below_go (below_al (Below.refl _ _) _) hb
  replace r_l := r_l.below B
  replace bb := below_go bb B
  clear B hb
  clear r_m
  go_wp2_with fail
  refine (awake22 _).mono ?_
  rintro e w6 ⟨rfl, hb⟩
  have B := below_go (Below.refl _ _) hb
  replace r_l := r_l.below B
  replace bb := below_go bb B
  clear B hb
  obtain ⟨g_l, o_l, rfl, q_l0, q_l1⟩ := r_l.pair (k := 0) (by decide)
  simp only [List.getElem_cons_zero, Nat.add_zero, Nat.zero_mul] at q_l0 q_l1
  clear r_l
  go_wp2_with fail
  refine (wkept_any (5) (0) _ (by unfold I64; decide) (by unfold I64; decide)).mono ?_
  rintro e w7 ⟨v, rfl, hv, hb⟩
  have B := below_go (Below.refl _ _) hb
  replace bb := below_go bb B
  clear B hb
  rw [show keptI (5) (0) = [] by decide +kernel] at hv
  obtain ⟨V_x, c_x, rfl, _, _, r_x, _⟩ := own_slice hv
  clear hv
  clear r_x
  go_wp2_with fail
  refine (wkept_any (-1) (2) _ (by unfold I64; decide) (by unfold I64; decide)).mono ?_
  rintro e w8 ⟨v, rfl, hv, hb⟩
  have B := below_go (Below.refl _ _) hb
  replace bb := below_go bb B
  clear B hb
  rw [show keptI (-1) (2) = [] by decide +kernel] at hv
  obtain ⟨V_x, c_x, rfl, _, _, r_x, _⟩ := own_slice hv
  clear hv
  clear r_x
  go_wp2_with fail
  refine (wkept_any (0) (3) _ (by unfold I64; decide) (by unfold I64; decide)).mono ?_
  rintro e w9 ⟨v, rfl, hv, hb⟩
  have B := below_go (Below.refl _ _) hb
  replace bb := below_go bb B
  clear B hb
  rw [show keptI (0) (3) = [0] by decide +kernel] at hv
  obtain ⟨V_x, c_x, rfl, _, _, r_x, _⟩ := own_slice hv
  clear hv
  go_wp2_with fail
  refine (sameInts_any _ _ 1 1 _ _ [0] [0] _ rfl rfl (by decide) (r_x.alloc _) (row_lit (iv [0]) 3 (by simp))).mono ?_
  rintro e w10 ⟨rfl, q, hq⟩
  have hb := below_of hq
  clear hq
  have B := below_go (below_al (Below.refl _ _) _) hb
  clear r_x
  replace bb := below_go bb B
  clear B hb
  rw [show decide (([0] : List Int) = [0]) = true by decide]
  go_wp2_with fail
  refine (wkept_any (4) (2) _ (by unfold I64; decide) (by unfold I64; decide)).mono ?_
  rintro e w11 ⟨v, rfl, hv, hb⟩
  have B := below_go (Below.refl _ _) hb
  replace bb := below_go bb B
  clear B hb
  rw [show keptI (4) (2) = [0, 2] by decide +kernel] at hv
  obtain ⟨V_x, c_x, rfl, _, _, r_x, _⟩ := own_slice hv
  clear hv
  go_wp2_with fail
  refine (sameInts_any _ _ 2 2 _ _ [0, 2] [0, 2] _ rfl rfl (by decide) (r_x.alloc _) (row_lit (iv [0, 2]) 3 (by simp))).mono ?_
  rintro e w12 ⟨rfl, q, hq⟩
  have hb := below_of hq
  clear hq
  have B := below_go (below_al (Below.refl _ _) _) hb
  clear r_x
  replace bb := below_go bb B
  clear B hb
  rw [show decide (([0, 2] : List Int) = [0, 2]) = true by decide]
  go_wp2_with fail
  refine (wroom_any (0) (5) (3) _ (by unfold I64; decide) (by unfold I64; decide)).mono ?_
  rintro e w13 ⟨rfl, e0⟩
  have hb := below_same e0.symm
  clear e0
  have B := below_go (Below.refl _ _) hb
  replace bb := below_go bb B
  clear B hb
  rw [show roomI (0) (5) (3) = 1 by decide +kernel]
  go_wp2_with fail
  refine (wroom_any (3) (-1) (1) _ (by unfold I64; decide) (by unfold I64; decide)).mono ?_
  rintro e w14 ⟨rfl, e0⟩
  have hb := below_same e0.symm
  clear e0
  have B := below_go (Below.refl _ _) hb
  replace bb := below_go bb B
  clear B hb
  rw [show roomI (3) (-1) (1) = 0 by decide +kernel]
  go_wp2_with fail
  refine (wroot_any (-4) _).mono ?_
  rintro e w15 ⟨r0, rfl, hr0, e0⟩
  have hb := below_same e0.symm
  clear e0
  have B := below_go (Below.refl _ _) hb
  replace bb := below_go bb B
  clear B hb
  obtain rfl : r0 = 1 := root_unique hr0 (is_root (by decide) (by decide +kernel) (by decide))
  clear hr0
  go_wp2_with fail
  refine (wroot_any (1) _).mono ?_
  rintro e w16 ⟨r0, rfl, hr0, e0⟩
  have hb := below_same e0.symm
  clear e0
  have B := below_go (Below.refl _ _) hb
  replace bb := below_go bb B
  clear B hb
  obtain rfl : r0 = 1 := root_unique hr0 (is_root (by decide) (by decide +kernel) (by decide))
  clear hr0
  go_wp2_with fail
  refine (wroot_any (4) _).mono ?_
  rintro e w17 ⟨r0, rfl, hr0, e0⟩
  have hb := below_same e0.symm
  clear e0
  have B := below_go (Below.refl _ _) hb
  replace bb := below_go bb B
  clear B hb
  obtain rfl : r0 = 2 := root_unique hr0 (is_root (by decide) (by decide +kernel) (by decide))
  clear hr0
  go_wp2_with fail
  refine (wroot_any (4611686018427387904) _).mono ?_
  rintro e w18 ⟨r0, rfl, hr0, e0⟩
  have hb := below_same e0.symm
  clear e0
  have B := below_go (Below.refl _ _) hb
  replace bb := below_go bb B
  clear B hb
  obtain rfl : r0 = 1024 := root_unique hr0 (is_root (by decide) (by decide +kernel) (by decide))
  clear hr0
  go_wp2_with fail
  go_ret
  exact Yes.of bb

/-! ### The row's step -/
theorem own : ownKnob Try.prog.godebug = none := by kernel_rfl
theorem laidOut : laidOutB Try.prog = true := by kernel_rfl

set_option maxRecDepth 100000 in
theorem contract (H : Type) (enc : TypeId × Value → H) (W : World) (base : Nat) (args : Array Value) (ds gs : List (DataW H)) (before : List MemPlace)
    (hval : ∀ (j : Nat) t v, Try.f3.params[j]? = some t → args[j]? = some v → Value.okWide Try.prog W .any base t v)
    (hW : DataW.Whole enc Try.prog Try.f3.params.toList Rows.walkKnownSpec.vars false W args.toList ds gs before) :
    Calls Try.prog 3 args W fun e W' => ∃ v, e = .returned v ∧ Rows.walkKnownSpec.post enc Try.prog Try.f3 false true false false W args v W' := by
  have hW' := hW
  obtain ⟨p, q, hA0, hV, rfl, hfz, hnd⟩ := hW
  have hA : DataW.TrodAll enc Try.prog W 0 (fun _ => true) true Try.f3.params.toList args.toList ds p := hA0
  rw [Try.params3] at hA
  obtain ⟨rfl, rfl, rfl⟩ := trodAll_none hA
  obtain ⟨rfl, rfl⟩ := trodVars_none hV
  clear hA0
  refine (walkKnown_walk  W ).mono fun e W' ⟨he, bel⟩ => ?_
  subst he
  exact ⟨_, rfl, _, _, _, [], _, [], hW', trodAll_mk1 (shut_bool Try.underlying4 _), trodAll_mk0, rfl, bel.frame _, fun h => by cases h⟩

set_option maxRecDepth 100000 in
theorem lifted (os : Os) (started : os.Started) (H : Type) (enc : TypeId × Value → H) :
    ReturnsInHanded {} Try.checked os 3 .any (Rows.walkKnownSpec.pre6 enc Try.prog Try.f3 Rows.walkKnownRow.domain false) (Rows.walkKnownSpec.post enc Try.prog Try.f3 false true false false) := by
  refine returnsInHanded_of_change (C := Try.checked) own started (by kernel_rfl) Try.func3
    (ChangeSpec.witness6 (enc := enc) (C := Try.checked) false ⟨#[], #[], []⟩ 8 (by kernel_rfl) (by kernel_rfl) (by kernel_rfl) (by kernel_rfl)) ?_
  intro W base args ds gs before hval hW _ _
  exact contract H enc W base args ds gs before hval hW

/-- The statement. -/
theorem proved : Rows.WalkKnownSaid :=
  OpenClaim.holds_of_wide 3 Try.f3 rfl rfl rfl rfl rfl rfl rfl ⟨rfl, rfl, rfl, rfl, rfl⟩ rfl rfl rfl rfl rfl (by kernel_rfl) Try.func3 (by kernel_rfl)
    (of_decide_eq_true (by kernel_rfl)) (by unfold Func.isWrapper; first | (rw [if_pos (by decide +kernel)]; kernel_rfl) | (rw [if_neg (by decide +kernel)]; exact ⟨rfl, rfl⟩))
    (fun os started H enc _ => lifted os started H enc)

end Go.Proofs.Ytncbhnmhaoblaaa.walkKnownP
