/-
  Proved: tattinglaw8.GridKnown returns true.
-/
import Derived.Test.YtdgijpbgbhpffaaAwake8
import Derived.Test.YtdgijpbgbhpffaaArgs
namespace Go.Proofs.Ytdgijpbgbhpffaa.gridKnownP
open Go.ChangeShapes Go.WideShapes Go.ChangeAt Go.RowKit

theorem k_dist1 : dist [1] [2] = 2 := by unfold dist; rw [k_one]; rfl
theorem k_dist2 : dist [] [1, 1] = 2 := by unfold dist; rw [k_nil]; rfl

set_option maxRecDepth 100000 in
set_option maxHeartbeats 3200000 in
theorem gridKnown_walk (w : World) : Calls Try.prog 3 #[] w (Yes w) := by
  go_enter Try.func3, Try.ntmps3
  go_wp2_with fail
  refine (awake8 _).mono ?_
  rintro e w1 ⟨rfl, hb⟩
  have B := below_go (Below.refl _ _) hb
  have bb := B
  clear B hb
  go_wp2_with fail
  refine (pbehind_any _ _ 0 1 _ _ [] [1] _ rfl rfl (by decide) (by decide) (Row.nil _ _) (row_lit (iv [1]) 3 (by simp))).mono ?_
  rintro e w2 ⟨T_x, B_x, rfl, _, tab_x, hb⟩
  have B := below_go (below_al (Below.refl _ _) _) hb
  have r_p : Row w2 (some ⟨w1.heap.size, 0, none⟩) (iv [1]) := Row.below (row_lit (iv [1]) 3 (by simp)) hb
  replace bb := below_go bb B
  clear B hb
  clear r_p
  go_wp2_with fail
  refine (ahead_any _ _ 1 0 _ _ [1] [] _ rfl rfl (by decide) (by decide) (row_lit (iv [1]) 3 (by simp)) (Row.nil _ _)).mono ?_
  rintro e w3 ⟨T_y, B_y, rfl, _, tab_y, hb⟩
  have B := below_go (below_al (Below.refl _ _) _) hb
  have r_p : Row w3 (some ⟨w2.heap.size, 0, none⟩) (iv [1]) := Row.below (row_lit (iv [1]) 3 (by simp)) hb
  replace tab_x := tab_x.below B
  replace bb := below_go bb B
  clear B hb
  clear r_p
  go_wp2_with fail
  refine (prun_any _ _ 2 3 _ _ [5, 5] [5, 5, 5] _ rfl rfl (by decide) (by decide) ((row_lit (iv [5, 5]) 3 (by simp)).alloc _) (row_lit (iv [5, 5, 5]) 3 (by simp))).mono ?_
  rintro e w4 ⟨v_l, l_l, P_l, rfl, eP, hg, hv, hb⟩
  have B := below_go (below_al (below_al (Below.refl _ _) _) _) hb
  have r_a : Row w4 (some ⟨w3.heap.size, 0, none⟩) (iv [5, 5]) := Row.below ((row_lit (iv [5, 5]) 3 (by simp)).alloc _) hb
  have r_b : Row w4 (some ⟨w3.heap.size + 1, 0, none⟩) (iv [5, 5, 5]) := Row.below (row_lit (iv [5, 5, 5]) 3 (by simp)) hb
  replace tab_x := tab_x.below B
  replace tab_y := tab_y.below B
  replace bb := below_go bb B
  clear B hb
  rw [hg.2, k_five] at hv
  obtain rfl : P_l = 6 := by rw [eP]; rfl
  obtain ⟨V_l, c_l, rfl, _, _, r_l, _⟩ := own_sliceS hv
  clear hv hg eP
  clear r_a
  clear r_b
  clear r_l
  go_wp2_with fail
  refine (prun_any _ _ 1 1 _ _ [1] [2] _ rfl rfl (by decide) (by decide) ((row_lit (iv [1]) 3 (by simp)).alloc _) (row_lit (iv [2]) 3 (by simp))).mono ?_
  rintro e w5 ⟨v_m, l_m, P_m, rfl, eP, hg, hv, hb⟩
  have B := below_go (below_al (below_al (Below.refl _ _) _) _) hb
  have r_a : Row w5 (some ⟨w4.heap.size, 0, none⟩) (iv [1]) := Row.below ((row_lit (iv [1]) 3 (by simp)).alloc _) hb
  have r_b : Row w5 (some ⟨w4.heap.size + 1, 0, none⟩) (iv [2]) := Row.below (row_lit (iv [2]) 3 (by simp)) hb
  replace tab_x := tab_x.below B
  replace tab_y := tab_y.below B
  replace bb := below_go bb B
  clear B hb
  rw [hg.2, k_one] at hv
  obtain rfl : P_m = 1 := by rw [eP]; rfl
  obtain ⟨V_m, c_m, rfl, _, _, r_m, _⟩ := own_sliceS hv
  clear hv hg eP
  clear r_a
  clear r_b
  clear r_m
  go_wp2_with fail
  refine (plen_any _ _ 0 0 _ _ [] [] _ rfl rfl (by decide) (by decide) (Row.nil _ _) (Row.nil _ _)).mono ?_
  rintro e w6 ⟨rfl, hb⟩
  have B := below_go (Below.refl _ _) hb
  replace tab_x := tab_x.below B
  replace tab_y := tab_y.below B
  replace bb := below_go bb B
  clear B hb
  rw [k_nil]
  go_wp2_with fail
  refine (plen_any _ _ 2 2 _ _ [3, -1] [3, -1] _ rfl rfl (by decide) (by decide) ((row_lit (iv [3, -1]) 3 (by simp)).alloc _) (row_lit (iv [3, -1]) 3 (by simp))).mono ?_
  rintro e w7 ⟨rfl, hb⟩
  have B := below_go (below_al (below_al (Below.refl _ _) _) _) hb
  have r_a : Row w7 (some ⟨w6.heap.size, 0, none⟩) (iv [3, -1]) := Row.below ((row_lit (iv [3, -1]) 3 (by simp)).alloc _) hb
  have r_b : Row w7 (some ⟨w6.heap.size + 1, 0, none⟩) (iv [3, -1]) := Row.below (row_lit (iv [3, -1]) 3 (by simp)) hb
  replace tab_x := tab_x.below B
  replace tab_y := tab_y.below B
  replace bb := below_go bb B
  clear B hb
  rw [k_same]
  clear r_a
  clear r_b
  go_wp2_with fail
  refine (plen_any _ _ 1 1 _ _ [1] [2] _ rfl rfl (by decide) (by decide) ((row_lit (iv [1]) 3 (by simp)).alloc _) (row_lit (iv [2]) 3 (by simp))).mono ?_
  rintro e w8 ⟨rfl, hb⟩
  have B := below_go (below_al (below_al (Below.refl _ _) _) _) hb
  have r_a : Row w8 (some ⟨w7.heap.size, 0, none⟩) (iv [1]) := Row.below ((row_lit (iv [1]) 3 (by simp)).alloc _) hb
  have r_b : Row w8 (some ⟨w7.heap.size + 1, 0, none⟩) (iv [2]) := Row.below (row_lit (iv [2]) 3 (by simp)) hb
  replace tab_x := tab_x.below B
  replace tab_y := tab_y.below B
  replace bb := below_go bb B
  clear B hb
  rw [k_one]
  clear r_a
  clear r_b
  go_wp2_with fail
  refine (pdist_any _ _ 1 1 _ _ [1] [2] _ rfl rfl (by decide) (by decide) ((row_lit (iv [1]) 3 (by simp)).alloc _) (row_lit (iv [2]) 3 (by simp))).mono ?_
  rintro e w9 ⟨rfl, hb⟩
  have B := below_go (below_al (below_al (Below.refl _ _) _) _) hb
  have r_a : Row w9 (some ⟨w8.heap.size, 0, none⟩) (iv [1]) := Row.below ((row_lit (iv [1]) 3 (by simp)).alloc _) hb
  have r_b : Row w9 (some ⟨w8.heap.size + 1, 0, none⟩) (iv [2]) := Row.below (row_lit (iv [2]) 3 (by simp)) hb
  replace tab_x := tab_x.below B
  replace tab_y := tab_y.below B
  replace bb := below_go bb B
  clear B hb
  rw [k_dist1]
  clear r_a
  clear r_b
  go_wp2_with fail
  refine (pdist_any _ _ 0 2 _ _ [] [1, 1] _ rfl rfl (by decide) (by decide) (Row.nil _ _) (row_lit (iv [1, 1]) 3 (by simp))).mono ?_
  rintro e w10 ⟨rfl, hb⟩
  have B := below_go (below_al (Below.refl _ _) _) hb
  have r_b : Row w10 (some ⟨w9.heap.size, 0, none⟩) (iv [1, 1]) := Row.below (row_lit (iv [1, 1]) 3 (by simp)) hb
  replace tab_x := tab_x.below B
  replace tab_y := tab_y.below B
  replace bb := below_go bb B
  clear B hb
  rw [k_dist2]
  clear r_b
  have x1 := tab_x.1.cell (i := 0) (by omega)
  have x2 := World.rowIs.cell (tab_x.2 0 (by omega)) (i := 0) (by omega)
  have y1 := tab_y.1.cell (i := 1) (by omega)
  dsimp only at x2
  rw [show ((lx [] [1] 0 0 : Nat) : Int) = 0 by simp [lx, lcs]] at x2
  clear tab_x tab_y
  go_wp2_with fail
  go_ret
  exact Yes.of bb

/-! ### The row's step -/
theorem own : ownKnob Try.prog.godebug = none := by kernel_rfl
theorem laidOut : laidOutB Try.prog = true := by kernel_rfl

theorem contract (H : Type) (enc : TypeId × Value → H) (W : World) (base : Nat) (args : Array Value) (ds gs : List (DataW H)) (before : List MemPlace)
    (hval : ∀ (j : Nat) t v, Try.f3.params[j]? = some t → args[j]? = some v → Value.okWide Try.prog W .any base t v)
    (hW : DataW.Whole enc Try.prog Try.f3.params.toList Rows.gridKnownSpec.vars false W args.toList ds gs before) :
    Calls Try.prog 3 args W fun e W' => ∃ v, e = .returned v ∧ Rows.gridKnownSpec.post enc Try.prog Try.f3 false true false false W args v W' := by
  have hW' := hW
  obtain ⟨p, q, hA0, hV, rfl, hfz, hnd⟩ := hW
  have hA : DataW.TrodAll enc Try.prog W 0 (fun _ => true) true Try.f3.params.toList args.toList ds p := hA0
  rw [Try.params3] at hA
  obtain ⟨rfl, rfl, rfl⟩ := trodAll_none hA
  obtain ⟨rfl, rfl⟩ := trodVars_none hV
  clear hA0
  refine (gridKnown_walk  W ).mono fun e W' ⟨he, bel⟩ => ?_
  subst he
  exact ⟨_, rfl, _, _, _, [], _, [], hW', trodAll_mk1 (shut_bool Try.underlying4 _), trodAll_mk0, rfl, bel.frame _, fun h => by cases h⟩

set_option maxRecDepth 100000 in
theorem lifted (os : Os) (started : os.Started) (H : Type) (enc : TypeId × Value → H) :
    ReturnsInHanded {} Try.checked os 3 .any (Rows.gridKnownSpec.pre6 enc Try.prog Try.f3 Rows.gridKnownRow.domain false) (Rows.gridKnownSpec.post enc Try.prog Try.f3 false true false false) := by
  refine returnsInHanded_of_change (C := Try.checked) own started (by kernel_rfl) Try.func3
    (ChangeSpec.witness6 (enc := enc) (C := Try.checked) false ⟨#[], #[], []⟩ 8 (by kernel_rfl) (by kernel_rfl) (by kernel_rfl) (by kernel_rfl)) ?_
  intro W base args ds gs before hval hW _ _
  exact contract H enc W base args ds gs before hval hW

/-- The statement. -/
theorem proved : Rows.GridKnownSaid :=
  OpenClaim.holds_of_wide 3 Try.f3 rfl rfl rfl rfl rfl rfl rfl ⟨rfl, rfl, rfl, rfl, rfl⟩ rfl rfl rfl rfl rfl (by kernel_rfl) Try.func3 (by kernel_rfl)
    (of_decide_eq_true (by kernel_rfl)) (by unfold Func.isWrapper; first | (rw [if_pos (by decide +kernel)]; kernel_rfl) | (rw [if_neg (by decide +kernel)]; exact ⟨rfl, rfl⟩))
    (fun os started H enc _ => lifted os started H enc)

end Go.Proofs.Ytdgijpbgbhpffaa.gridKnownP
