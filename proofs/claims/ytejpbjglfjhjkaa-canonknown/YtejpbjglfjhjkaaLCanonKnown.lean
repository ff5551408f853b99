/-
  Proved: tattinglaw23.CanonKnown returns true.
-/
import Derived.Test.YtejpbjglfjhjkaaM24
import Derived.Test.YtejpbjglfjhjkaaM25
namespace Go.Proofs.Ytejpbjglfjhjkaa.canonKnownP
open Go.ChangeShapes Go.WideShapes Go.ChangeAt Go.RowKit

set_option maxRecDepth 100000 in
set_option maxHeartbeats 3200000 in
theorem canonKnown_walk (w : World) : Calls Try.prog 3 #[] w (Yes w) := by
  go_enter Try.func3, Try.ntmps3
  go_wp2_with fail
  refine (pof_w _ _ _ 1 1 0 _ _ _ [1] [1] [] [] 6 _ (by decide +kernel) rfl rfl rfl (by decide) (by decide) (by decide) (Nat.le_refl _) (Nat.le_refl _) ((row_lit (iv [1]) 3 (by simp)).alloc _) (row_lit (iv [1]) 3 (by simp)) (Row.nil _ _)).mono ?_
  rintro e w1 ⟨v, rfl, hv, hb⟩
  obtain ⟨V_t, c_t, rfl, _, _, r_t, _⟩ := own_sliceS hv
  clear hv
  have B := below_go (below_al (below_al (Below.refl _ _) _) _) hb
  have bb := B
  clear B hb
  clear r_t
  go_wp2_with fail
  refine (pof_w _ _ _ 1 1 1 _ _ _ [1] [2] [(0, 0)] [] 1 _ (by decide +kernel) rfl rfl rfl (by decide) (by decide) (by decide) (Nat.le_refl _) (Nat.le_refl _) (((row_lit (iv [1]) 3 (by simp)).alloc _).alloc _) ((row_lit (iv [2]) 3 (by simp)).alloc _) (row_lit (pv [(0, 0)]) 28 (by simp))).mono ?_
  rintro e w2 ⟨v, rfl, hv, hb⟩
  obtain ⟨V_t, c_t, rfl, _, _, r_t, _⟩ := own_sliceS hv
  clear hv
  have B := below_go (below_al (below_al (below_al (Below.refl _ _) _) _) _) hb
  replace bb := below_go bb B
  clear B hb
  clear r_t
  go_wp2_with fail
  refine (pleft_w _ _ _ 1 1 1 _ _ _ [1] [1] [(1, 0)] [] 1 _ (by decide +kernel) rfl rfl rfl (by decide) (by decide) (by decide)  (((row_lit (iv [1]) 3 (by simp)).alloc _).alloc _) ((row_lit (iv [1]) 3 (by simp)).alloc _) (row_lit (pv [(1, 0)]) 28 (by simp))).mono ?_
  rintro e w3 ⟨v, rfl, hv, hb⟩
  obtain ⟨V_t, c_t, rfl, _, _, r_t, _⟩ := own_sliceS hv
  clear hv
  have B := below_go (below_al (below_al (below_al (Below.refl _ _) _) _) _) hb
  replace bb := below_go bb B
  clear B hb
  clear r_t
  go_wp2_with fail
  refine (ptop_w _ _ _ 1 1 2 _ _ _ [1] [1] [(0, 0), (0, 0)] [] 1 _ (by decide +kernel) rfl rfl rfl (by decide) (by decide) (by decide)  (((row_lit (iv [1]) 3 (by simp)).alloc _).alloc _) ((row_lit (iv [1]) 3 (by simp)).alloc _) (row_lit (pv [(0, 0), (0, 0)]) 28 (by simp))).mono ?_
  rintro e w4 ⟨v, rfl, hv, hb⟩
  obtain ⟨V_t, c_t, rfl, _, _, r_t, _⟩ := own_sliceS hv
  clear hv
  have B := below_go (below_al (below_al (below_al (Below.refl _ _) _) _) _) hb
  replace bb := below_go bb B
  clear B hb
  clear r_t
  go_wp2_with fail
  refine (pof_w _ _ _ 1 1 0 _ _ _ [1] [2] [] [] 0 _ (by decide +kernel) rfl rfl rfl (by decide) (by decide) (by decide) (Nat.le_refl _) (Nat.le_refl _) ((row_lit (iv [1]) 3 (by simp)).alloc _) (row_lit (iv [2]) 3 (by simp)) (Row.nil _ _)).mono ?_
  rintro e w5 ⟨v, rfl, hv, hb⟩
  obtain ⟨V_l, c_l, rfl, _, _, r_l, _⟩ := own_sliceS hv
  clear hv
  have B := below_go (below_al (below_al (Below.refl _ _) _) _) hb
  replace bb := below_go bb B
  clear B hb
  clear r_l
  go_wp2_with fail
  refine (pleft_w _ _ _ 4 4 2 _ _ _ [7, 8, 7, 8] [7, 7, 8, 8] [(2, 1), (3, 3)] [(2, 0), (3, 2)] 0 _ (by decide +kernel) rfl rfl rfl (by decide) (by decide) (by decide)  (((row_lit (iv [7, 8, 7, 8]) 3 (by simp)).alloc _).alloc _) ((row_lit (iv [7, 7, 8, 8]) 3 (by simp)).alloc _) (row_lit (pv [(2, 1), (3, 3)]) 28 (by simp))).mono ?_
  rintro e w6 ⟨v, rfl, hv, hb⟩
  obtain ⟨V_m, c_m, rfl, _, _, r_m, _⟩ := own_sliceS hv
  clear hv
  have B := below_go (below_al (below_al (below_al (Below.refl _ _) _) _) _) hb
  have r_a : Row w6 (some ⟨w5.heap.size, 0, none⟩) (iv [7, 8, 7, 8]) := Row.below (((row_lit (iv [7, 8, 7, 8]) 3 (by simp)).alloc _).alloc _) hb
  have r_b : Row w6 (some ⟨w5.heap.size + 1, 0, none⟩) (iv [7, 7, 8, 8]) := Row.below ((row_lit (iv [7, 7, 8, 8]) 3 (by simp)).alloc _) hb
  replace bb := below_go bb B
  clear B hb
  go_wp2_with fail
  refine (ptop_w _ _ _ 4 4 2 _ _ _ [7, 8, 7, 8] [7, 7, 8, 8] [(2, 1), (3, 3)] [(0, 1), (1, 3)] 0 _ (by decide +kernel) rfl rfl rfl (by decide) (by decide) (by decide)  (r_a.alloc _) (r_b.alloc _) (row_lit (pv [(2, 1), (3, 3)]) 28 (by simp))).mono ?_
  rintro e w7 ⟨v, rfl, hv, hb⟩
  obtain ⟨V_n, c_n, rfl, _, _, r_n, _⟩ := own_sliceS hv
  clear hv
  have B := below_go (below_al (Below.refl _ _) _) hb
  clear r_a
  clear r_b
  replace r_m := r_m.below B
  replace bb := below_go bb B
  clear B hb
  go_wp2_with fail
  refine (awake23 _).mono ?_
  rintro e w8 ⟨rfl, hb⟩
  have B := below_go (Below.refl _ _) hb
  replace r_m := r_m.below B
  replace r_n := r_n.below B
  replace bb := below_go bb B
  clear B hb
  go_wp2_with fail
  refine (samePairs_any _ _ 2 2 _ _ [(2, 0), (3, 2)] [(2, 0), (3, 2)] _ rfl rfl (by decide) (r_m.alloc _) (row_lit (pv [(2, 0), (3, 2)]) 28 (by simp))).mono ?_
  rintro e w9 ⟨rfl, q, hq⟩
  have hb := below_of hq
  clear hq
  have B := below_go (below_al (Below.refl _ _) _) hb
  clear r_m
  replace r_n := r_n.below B
  replace bb := below_go bb B
  clear B hb
  rw [show decide (([(2, 0), (3, 2)] : List Pr) = [(2, 0), (3, 2)]) = true by decide]
  go_wp2_with fail
  refine (samePairs_any _ _ 2 2 _ _ [(0, 1), (1, 3)] [(0, 1), (1, 3)] _ rfl rfl (by decide) (r_n.alloc _) (row_lit (pv [(0, 1), (1, 3)]) 28 (by simp))).mono ?_
  rintro e w10 ⟨rfl, q, hq⟩
  have hb := below_of hq
  clear hq
  have B := below_go (below_al (Below.refl _ _) _) hb
  clear r_n
  replace bb := below_go bb B
  clear B hb
  rw [show decide (([(0, 1), (1, 3)] : List Pr) = [(0, 1), (1, 3)]) = true by decide]
  go_wp2_with fail
  go_ret
  exact Yes.of bb

/-! ### The row's step -/
theorem own : ownKnob Try.prog.godebug = none := by kernel_rfl
theorem laidOut : laidOutB Try.prog = true := by kernel_rfl

set_option maxRecDepth 100000 in
theorem contract (H : Type) (enc : TypeId × Value → H) (W : World) (base : Nat) (args : Array Value) (ds gs : List (DataW H)) (before : List MemPlace)
    (hval : ∀ (j : Nat) t v, Try.f3.params[j]? = some t → args[j]? = some v → Value.okWide Try.prog W .any base t v)
    (hW : DataW.Whole enc Try.prog Try.f3.params.toList Rows.canonKnownSpec.vars false W args.toList ds gs before) :
    Calls Try.prog 3 args W fun e W' => ∃ v, e = .returned v ∧ Rows.canonKnownSpec.post enc Try.prog Try.f3 false true false false W args v W' := by
  have hW' := hW
  obtain ⟨p, q, hA0, hV, rfl, hfz, hnd⟩ := hW
  have hA : DataW.TrodAll enc Try.prog W 0 (fun _ => true) true Try.f3.params.toList args.toList ds p := hA0
  rw [Try.params3] at hA
  obtain ⟨rfl, rfl, rfl⟩ := trodAll_none hA
  obtain ⟨rfl, rfl⟩ := trodVars_none hV
  clear hA0
  refine (canonKnown_walk  W ).mono fun e W' ⟨he, bel⟩ => ?_
  subst he
  exact ⟨_, rfl, _, _, _, [], _, [], hW', trodAll_mk1 (shut_bool Try.underlying4 _), trodAll_mk0, rfl, bel.frame _, fun h => by cases h⟩

set_option maxRecDepth 100000 in
theorem lifted (os : Os) (started : os.Started) (H : Type) (enc : TypeId × Value → H) :
    ReturnsInHanded {} Try.checked os 3 .any (Rows.canonKnownSpec.pre6 enc Try.prog Try.f3 Rows.canonKnownRow.domain false) (Rows.canonKnownSpec.post enc Try.prog Try.f3 false true false false) := by
  refine returnsInHanded_of_change (C := Try.checked) own started (by kernel_rfl) Try.func3
    (ChangeSpec.witness6 (enc := enc) (C := Try.checked) false ⟨#[], #[], []⟩ 8 (by kernel_rfl) (by kernel_rfl) (by kernel_rfl) (by kernel_rfl)) ?_
  intro W base args ds gs before hval hW _ _
  exact contract H enc W base args ds gs before hval hW

/-- The statement. -/
theorem proved : Rows.CanonKnownSaid :=
  OpenClaim.holds_of_wide 3 Try.f3 rfl rfl rfl rfl rfl rfl rfl ⟨rfl, rfl, rfl, rfl, rfl⟩ rfl rfl rfl rfl rfl (by kernel_rfl) Try.func3 (by kernel_rfl)
    (of_decide_eq_true (by kernel_rfl)) (by unfold Func.isWrapper; first | (rw [if_pos (by decide +kernel)]; kernel_rfl) | (rw [if_neg (by decide +kernel)]; exact ⟨rfl, rfl⟩))
    (fun os started H enc _ => lifted os started H enc)

end Go.Proofs.Ytejpbjglfjhjkaa.canonKnownP
