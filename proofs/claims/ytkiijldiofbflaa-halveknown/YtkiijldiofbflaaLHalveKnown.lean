/-
  Proved: tattinglaw11.HalveKnown returns true.
-/
import Derived.Test.YtkiijldiofbflaaAwake11
import Derived.Test.YtkiijldiofbflaaArgs
namespace Go.Proofs.Ytkiijldiofbflaa.halveKnownP
open Go.ChangeShapes Go.WideShapes Go.ChangeAt Go.RowKit

set_option maxRecDepth 100000 in
set_option maxHeartbeats 3200000 in
theorem halveKnown_walk (w : World) : Calls Try.prog 3 #[] w (Yes w) := by
  go_enter Try.func3, Try.ntmps3
  go_wp2_with fail
  refine (run_known _ _ 1 3 1 3 [4] [3, 4, 4] [(0, 1)] 3 _ (by decide +kernel) rfl rfl (by decide) (by decide) (Nat.le_refl _) (Nat.le_refl _) ((row_lit (iv [4]) 3 (by simp)).alloc _) (row_lit (iv [3, 4, 4]) 3 (by simp))).mono ?_
  rintro e w1 ⟨v, rfl, hv, hb⟩
  have B := below_go (below_al (below_al (Below.refl _ _) _) _) hb
  have r_a : Row w1 (some ⟨w.heap.size, 0, none⟩) (iv [4]) := Row.below ((row_lit (iv [4]) 3 (by simp)).alloc _) hb
  have r_b : Row w1 (some ⟨w.heap.size + 1, 0, none⟩) (iv [3, 4, 4]) := Row.below (row_lit (iv [3, 4, 4]) 3 (by simp)) hb
  have bb := B
  clear B hb
  obtain ⟨V_l, c_l, rfl, _, _, r_l, _⟩ := own_sliceS hv
  clear hv
  clear r_a
  clear r_b
  go_wp2_with fail
  refine (run_known _ _ 0 1 0 1 [] [1] [] 0 _ (by decide +kernel) rfl rfl (by decide) (by decide) (Nat.le_refl _) (Nat.le_refl _) (Row.nil _ _) (row_lit (iv [1]) 3 (by simp))).mono ?_
  rintro e w2 ⟨v, rfl, hv, hb⟩
  have B := below_go (below_al (Below.refl _ _) _) hb
  have r_b : Row w2 (some ⟨w1.heap.size, 0, none⟩) (iv [1]) := Row.below (row_lit (iv [1]) 3 (by simp)) hb
  replace r_l := r_l.below B
  replace bb := below_go bb B
  clear B hb
  obtain ⟨V_m, c_m, rfl, _, _, r_m, _⟩ := own_sliceS hv
  clear hv
  clear r_m
  clear r_b
  go_wp2_with fail
  refine (run_known _ _ 1 2 1 2 [1] [2, 2] [] 2 _ (by decide +kernel) rfl rfl (by decide) (by decide) (Nat.le_refl _) (Nat.le_refl _) ((row_lit (iv [1]) 3 (by simp)).alloc _) (row_lit (iv [2, 2]) 3 (by simp))).mono ?_
  rintro e w3 ⟨v, rfl, hv, hb⟩
  have B := below_go (below_al (below_al (Below.refl _ _) _) _) hb
  have r_a : Row w3 (some ⟨w2.heap.size, 0, none⟩) (iv [1]) := Row.below ((row_lit (iv [1]) 3 (by simp)).alloc _) hb
  have r_b : Row w3 (some ⟨w2.heap.size + 1, 0, none⟩) (iv [2, 2]) := Row.below (row_lit (iv [2, 2]) 3 (by simp)) hb
  replace r_l := r_l.below B
  replace bb := below_go bb B
  clear B hb
  obtain ⟨V_o, c_o, rfl, _, _, r_o, _⟩ := own_sliceS hv
  clear hv
  clear r_o
  clear r_a
  clear r_b
  go_wp2_with fail
  refine (awake11 _).mono ?_
  rintro e w4 ⟨rfl, hb⟩
  have B := below_go (Below.refl _ _) hb
  replace r_l := r_l.below B
  replace bb := below_go bb B
  clear B hb
  obtain ⟨g_l, o_l, rfl, p_l, q_l⟩ := r_l.pair (k := 0) (by decide)
  simp only [List.getElem_cons_zero, Nat.zero_mul, Nat.add_zero] at p_l q_l
  go_wp2_with fail
  refine (most_any 0 5 _ (by decide) (by decide)).mono ?_
  rintro e w5 ⟨rfl, rfl⟩
  rw [show mostI 0 5 = 0 by decide +kernel]
  go_wp2_with fail
  refine (most_any 5 (-1) _ (by decide) (by decide)).mono ?_
  rintro e w6 ⟨rfl, rfl⟩
  rw [show mostI 5 (-1) = 0 by decide +kernel]
  go_wp2_with fail
  refine (most_any 1 1 _ (by decide) (by decide)).mono ?_
  rintro e w7 ⟨rfl, rfl⟩
  rw [show mostI 1 1 = 3 by decide +kernel]
  go_wp2_with fail
  refine (most_any 9 2 _ (by decide) (by decide)).mono ?_
  rintro e w8 ⟨rfl, rfl⟩
  rw [show mostI 9 2 = 44 by decide +kernel]
  go_wp2_with fail
  refine (most_any 1099511627776 2 _ (by decide) (by decide)).mono ?_
  rintro e w9 ⟨rfl, rfl⟩
  rw [show mostI 1099511627776 2 = 0 by decide +kernel]
  go_wp2_with fail
  go_ret
  exact Yes.of bb

/-! ### The row's step -/
theorem own : ownKnob Try.prog.godebug = none := by kernel_rfl
theorem laidOut : laidOutB Try.prog = true := by kernel_rfl

theorem contract (H : Type) (enc : TypeId × Value → H) (W : World) (base : Nat) (args : Array Value) (ds gs : List (DataW H)) (before : List MemPlace)
    (hval : ∀ (j : Nat) t v, Try.f3.params[j]? = some t → args[j]? = some v → Value.okWide Try.prog W .any base t v)
    (hW : DataW.Whole enc Try.prog Try.f3.params.toList Rows.halveKnownSpec.vars false W args.toList ds gs before) :
    Calls Try.prog 3 args W fun e W' => ∃ v, e = .returned v ∧ Rows.halveKnownSpec.post enc Try.prog Try.f3 false true false false W args v W' := by
  have hW' := hW
  obtain ⟨p, q, hA0, hV, rfl, hfz, hnd⟩ := hW
  have hA : DataW.TrodAll enc Try.prog W 0 (fun _ => true) true Try.f3.params.toList args.toList ds p := hA0
  rw [Try.params3] at hA
  obtain ⟨rfl, rfl, rfl⟩ := trodAll_none hA
  obtain ⟨rfl, rfl⟩ := trodVars_none hV
  clear hA0
  refine (halveKnown_walk  W ).mono fun e W' ⟨he, bel⟩ => ?_
  subst he
  exact ⟨_, rfl, _, _, _, [], _, [], hW', trodAll_mk1 (shut_bool Try.underlying4 _), trodAll_mk0, rfl, bel.frame _, fun h => by cases h⟩

set_option maxRecDepth 100000 in
theorem lifted (os : Os) (started : os.Started) (H : Type) (enc : TypeId × Value → H) :
    ReturnsInHanded {} Try.checked os 3 .any (Rows.halveKnownSpec.pre6 enc Try.prog Try.f3 Rows.halveKnownRow.domain false) (Rows.halveKnownSpec.post enc Try.prog Try.f3 false true false false) := by
  refine returnsInHanded_of_change (C := Try.checked) own started (by kernel_rfl) Try.func3
    (ChangeSpec.witness6 (enc := enc) (C := Try.checked) false ⟨#[], #[], []⟩ 8 (by kernel_rfl) (by kernel_rfl) (by kernel_rfl) (by kernel_rfl)) ?_
  intro W base args ds gs before hval hW _ _
  exact contract H enc W base args ds gs before hval hW

/-- The statement. -/
theorem proved : Rows.HalveKnownSaid :=
  OpenClaim.holds_of_wide 3 Try.f3 rfl rfl rfl rfl rfl rfl rfl ⟨rfl, rfl, rfl, rfl, rfl⟩ rfl rfl rfl rfl rfl (by kernel_rfl) Try.func3 (by kernel_rfl)
    (of_decide_eq_true (by kernel_rfl)) (by unfold Func.isWrapper; first | (rw [if_pos (by decide +kernel)]; kernel_rfl) | (rw [if_neg (by decide +kernel)]; exact ⟨rfl, rfl⟩))
    (fun os started H enc _ => lifted os started H enc)

end Go.Proofs.Ytkiijldiofbflaa.halveKnownP
