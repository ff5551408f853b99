/-
  What the document tells of chapter 7 holds: awake returns true.
-/
import Derived.Test.YtlinkhffkgahpaaPrG
import Derived.Test.YtlinkhffkgahpaaPrL
import Derived.Test.YtlinkhffkgahpaaPrT
import Derived.Test.YtlinkhffkgahpaaPrV
import Derived.Test.YtlinkhffkgahpaaKnK
namespace Go.Proofs.Ytlinkhffkgahpaa
open Go.RowKit

set_option maxRecDepth 100000 in
set_option maxHeartbeats 1600000 in
theorem awake7 (w : World) : Calls Try.prog 13 #[] w (Yes w) := by
  go_enter Try.func13, Try.ntmps13
  go_wp2_with fail
  refine (pgood _ _ _ 2 2 1 _ _ _ [1, 2] [2, 1] [(0, 1)] _ rfl rfl rfl (by decide) ((row_lit (iv [1, 2]) 3 (by simp)).alloc _) (row_lit (iv [2, 1]) 3 (by simp)) (((row_lit (pv [(0, 1)]) 24 (by simp)).alloc _).alloc _)).mono ?_
  rintro e w1 ⟨rfl, hb⟩
  have B := below_go (below_al (below_al (below_al (Below.refl _ _) _) _) _) hb
  have r_l : Row w1 (some ⟨w.heap.size, 0, none⟩) (pv [(0, 1)]) := Row.below (((row_lit (pv [(0, 1)]) 24 (by simp)).alloc _).alloc _) hb
  have r_a : Row w1 (some ⟨w.heap.size + 1, 0, none⟩) (iv [1, 2]) := Row.below ((row_lit (iv [1, 2]) 3 (by simp)).alloc _) hb
  have r_b : Row w1 (some ⟨w.heap.size + 2, 0, none⟩) (iv [2, 1]) := Row.below (row_lit (iv [2, 1]) 3 (by simp)) hb
  have bb := B
  clear B hb
  rw [show goodB [1, 2] [2, 1] [(0, 1)] = true by decide]
  clear r_a
  clear r_b
  go_wp2_with fail
  refine (pgood _ _ _ 1 1 1 _ _ _ [1] [2] [(0, 0)] _ rfl rfl rfl (by decide) (((row_lit (iv [1]) 3 (by simp)).alloc _).alloc _) ((row_lit (iv [2]) 3 (by simp)).alloc _) (row_lit (pv [(0, 0)]) 24 (by simp))).mono ?_
  rintro e w2 ⟨rfl, hb⟩
  have B := below_go (below_al (below_al (below_al (Below.refl _ _) _) _) _) hb
  have r_a : Row w2 (some ⟨w1.heap.size, 0, none⟩) (iv [1]) := Row.below (((row_lit (iv [1]) 3 (by simp)).alloc _).alloc _) hb
  have r_b : Row w2 (some ⟨w1.heap.size + 1, 0, none⟩) (iv [2]) := Row.below ((row_lit (iv [2]) 3 (by simp)).alloc _) hb
  have r_z : Row w2 (some ⟨w1.heap.size + 2, 0, none⟩) (pv [(0, 0)]) := Row.below (row_lit (pv [(0, 0)]) 24 (by simp)) hb
  replace r_l := r_l.below B
  replace bb := below_go bb B
  clear B hb
  rw [show goodB [1] [2] [(0, 0)] = false by decide]
  clear r_a
  clear r_b
  clear r_z
  go_wp2_with fail
  refine (pless _ _ 0 1 _ _ [] [(0, 1)] _ rfl rfl (by decide) (by decide) (Row.nil _ _) r_l).mono ?_
  rintro e w3 ⟨rfl, q, hq⟩
  have hb := below_of hq
  clear hq
  have B := below_go (Below.refl _ _) hb
  replace r_l := r_l.below B
  replace bb := below_go bb B
  clear B hb
  rw [show lessB [] [(0, 1)] = true by decide]
  go_wp2_with fail
  refine (pless _ _ 1 0 _ _ [(0, 1)] [] _ rfl rfl (by decide) (by decide) r_l (Row.nil _ _)).mono ?_
  rintro e w4 ⟨rfl, q, hq⟩
  have hb := below_of hq
  clear hq
  have B := below_go (Below.refl _ _) hb
  replace r_l := r_l.below B
  replace bb := below_go bb B
  clear B hb
  rw [show lessB [(0, 1)] [] = false by decide]
  go_wp2_with fail
  refine (pturn _ 1 _ [(0, 1)] _ rfl (by decide) r_l).mono ?_
  rintro e w5 ⟨v, rfl, hv, hb⟩
  have B := below_go (Below.refl _ _) hb
  replace r_l := r_l.below B
  replace bb := below_go bb B
  clear B hb
  rw [show turnP [(0, 1)] = [(1, 0)] by decide] at hv
  obtain ⟨V_t, c_t, rfl, _, _, r_t, _⟩ := own_sliceS hv
  clear hv
  clear r_t
  go_wp2_with fail
  refine (pmove _ 1 _ [(0, 1)] 1 1 _ rfl (by decide) r_l).mono ?_
  rintro e w6 ⟨v, rfl, hv, hb⟩
  have B := below_go (Below.refl _ _) hb
  replace r_l := r_l.below B
  replace bb := below_go bb B
  clear B hb
  obtain ⟨V_m, c_m, rfl, _, _, r_m, _⟩ := own_sliceS hv
  clear hv
  clear r_m
  go_wp2_with fail
  refine (pvals _ _ 1 1 _ _ [5] [(0, 1)] _ rfl rfl (by decide) (row_lit (iv [5]) 3 (by simp)) (r_l.alloc _)).mono ?_
  rintro e w7 ⟨v, rfl, hv, hb⟩
  have B := below_go (below_al (Below.refl _ _) _) hb
  have r_f : Row w7 (some ⟨w6.heap.size, 0, none⟩) (iv [5]) := Row.below (row_lit (iv [5]) 3 (by simp)) hb
  replace r_l := r_l.below B
  replace bb := below_go bb B
  clear B hb
  rw [show valsOf [5] [(0, 1)] = [5] by decide] at hv
  obtain ⟨V_v, c_v, rfl, _, _, r_v, _⟩ := own_slice hv
  clear hv
  go_wp2_with fail
  go_ret
  exact Yes.of bb

end Go.Proofs.Ytlinkhffkgahpaa
