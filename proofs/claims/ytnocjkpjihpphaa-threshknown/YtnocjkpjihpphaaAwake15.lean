/-
  What the document tells of chapter 15 holds: awake returns true.
-/
import Derived.Test.YtnocjkpjihpphaaThW
namespace Go.Proofs.Ytnocjkpjihpphaa
open Go.RowKit

set_option maxRecDepth 100000 in
set_option maxHeartbeats 1600000 in
theorem awake15 (w : World) : Calls Try.prog 9 #[] w (Yes w) := by
  go_enter Try.func9, Try.ntmps9
  go_wp2_with fail
  refine (tPut_any _ 3 _ [2, 5, 9] 4 _ rfl (by decide) (asc_of (by decide)) (fun h => by cases h) (row_lit (iv [2, 5, 9]) 3 (by simp))).mono ?_
  rintro e w1 ⟨v, rfl, hv, hb⟩
  have B := below_go (below_al (Below.refl _ _) _) hb
  have r_r : Row w1 (some ⟨w.heap.size, 0, none⟩) (iv [2, 5, 9]) := Row.below (row_lit (iv [2, 5, 9]) 3 (by simp)) hb
  have bb := B
  clear B hb
  rw [show putT [2, 5, 9] 4 = [2, 4, 9] by decide +kernel] at hv
  obtain ⟨V_x, c_x, rfl, _, _, r_x, _⟩ := own_slice hv
  clear hv
  rw [show cntL [2, 5, 9] 4 = 1 by decide +kernel]
  clear r_r
  go_wp2_with fail
  refine (sameInts_any _ _ 3 3 _ _ [2, 4, 9] [2, 4, 9] _ rfl rfl (by decide) (r_x.alloc _) (row_lit (iv [2, 4, 9]) 3 (by simp))).mono ?_
  rintro e w2 ⟨rfl, q, hq⟩
  have hb := below_of hq
  clear hq
  have B := below_go (below_al (Below.refl _ _) _) hb
  have r_y : Row w2 (some ⟨w1.heap.size, 0, none⟩) (iv [2, 4, 9]) := Row.below (row_lit (iv [2, 4, 9]) 3 (by simp)) hb
  replace r_x := r_x.below B
  replace bb := below_go bb B
  clear B hb
  rw [show decide (([2, 4, 9] : List Int) = [2, 4, 9]) = true by decide]
  clear r_x
  clear r_y
  go_wp2_with fail
  refine (tfind_any _ 3 _ [2, 5, 9] 9 _ rfl (by decide) (asc_of (by decide)) (row_lit (iv [2, 5, 9]) 3 (by simp))).mono ?_
  rintro e w3 ⟨rfl, q, hq⟩
  have hb := below_of hq
  clear hq
  have B := below_go (below_al (Below.refl _ _) _) hb
  have r_r : Row w3 (some ⟨w2.heap.size, 0, none⟩) (iv [2, 5, 9]) := Row.below (row_lit (iv [2, 5, 9]) 3 (by simp)) hb
  replace bb := below_go bb B
  clear B hb
  rw [show cntL [2, 5, 9] 9 = 2 by decide +kernel]
  clear r_r
  go_wp2_with fail
  refine (trow_any _ _ 1 3 _ _ [3] [1, 2, 3] _ rfl rfl (by decide) (asc_of (by decide)) (fun h => by cases h) ((row_lit (iv [3]) 3 (by simp)).alloc _) (row_lit (iv [1, 2, 3]) 3 (by simp))).mono ?_
  rintro e w4 ⟨v, rfl, hv, hb⟩
  have B := below_go (below_al (below_al (Below.refl _ _) _) _) hb
  have r_r : Row w4 (some ⟨w3.heap.size, 0, none⟩) (iv [3]) := Row.below ((row_lit (iv [3]) 3 (by simp)).alloc _) hb
  have r_s : Row w4 (some ⟨w3.heap.size + 1, 0, none⟩) (iv [1, 2, 3]) := Row.below (row_lit (iv [1, 2, 3]) 3 (by simp)) hb
  replace bb := below_go bb B
  clear B hb
  rw [show rowTh [3] [1, 2, 3] = [1] by decide +kernel] at hv
  obtain ⟨V_x, c_x, rfl, _, _, r_x, _⟩ := own_slice hv
  clear hv
  clear r_r
  clear r_s
  go_wp2_with fail
  refine (sameInts_any _ _ 1 1 _ _ [1] [1] _ rfl rfl (by decide) (r_x.alloc _) (row_lit (iv [1]) 3 (by simp))).mono ?_
  rintro e w5 ⟨rfl, q, hq⟩
  have hb := below_of hq
  clear hq
  have B := below_go (below_al (Below.refl _ _) _) hb
  have r_y : Row w5 (some ⟨w4.heap.size, 0, none⟩) (iv [1]) := Row.below (row_lit (iv [1]) 3 (by simp)) hb
  replace r_x := r_x.below B
  replace bb := below_go bb B
  clear B hb
  rw [show decide (([1] : List Int) = [1]) = true by decide]
  clear r_x
  clear r_y
  go_wp2_with fail
  go_ret
  exact Yes.of bb

end Go.Proofs.Ytnocjkpjihpphaa
