/-
  What the document tells of chapter 10 holds: awake returns true.
-/
import Derived.Test.YtikmmbplcjhhiaaRw4
import Derived.Test.YtikmmbplcjhhiaaRw5
import Derived.Test.YtikmmbplcjhhiaaKnK
namespace Go.Proofs.Ytikmmbplcjhhiaa
open Go.RowKit

set_option maxRecDepth 100000 in
set_option maxHeartbeats 1600000 in
theorem awake10 (w : World) : Calls Try.prog 9 #[] w (Yes w) := by
  go_enter Try.func9, Try.ntmps9
  go_wp2_with fail
  refine (next_any _ _ 3 2 _ _ [0, 0, 0] 7 [7, 7] _ rfl rfl (by decide) ((row_lit (iv [0, 0, 0]) 3 (by simp)).alloc _) (row_lit (iv [7, 7]) 3 (by simp))).mono ?_
  rintro e w1 ⟨v, rfl, hv, hb⟩
  have B := below_go (below_al (below_al (Below.refl _ _) _) _) hb
  have r_r : Row w1 (some ⟨w.heap.size, 0, none⟩) (iv [0, 0, 0]) := Row.below ((row_lit (iv [0, 0, 0]) 3 (by simp)).alloc _) hb
  have r_b : Row w1 (some ⟨w.heap.size + 1, 0, none⟩) (iv [7, 7]) := Row.below (row_lit (iv [7, 7]) 3 (by simp)) hb
  have bb := B
  clear B hb
  rw [show nextL [0, 0, 0] 7 [7, 7] = [0, 1, 1] by decide +kernel] at hv
  obtain ⟨V_x, c_x, rfl, _, _, r_x, _⟩ := own_slice hv
  clear hv
  clear r_r
  clear r_b
  go_wp2_with fail
  refine (split_any _ _ 2 2 _ _ [0, 1] [1, 1] _ rfl rfl (by decide) ((row_lit (iv [0, 1]) 3 (by simp)).alloc _) (row_lit (iv [1, 1]) 3 (by simp))).mono ?_
  rintro e w2 ⟨rfl, q, hq⟩
  have hb := below_of hq
  clear hq
  have B := below_go (below_al (below_al (Below.refl _ _) _) _) hb
  have r_f : Row w2 (some ⟨w1.heap.size, 0, none⟩) (iv [0, 1]) := Row.below ((row_lit (iv [0, 1]) 3 (by simp)).alloc _) hb
  have r_g : Row w2 (some ⟨w1.heap.size + 1, 0, none⟩) (iv [1, 1]) := Row.below (row_lit (iv [1, 1]) 3 (by simp)) hb
  replace r_x := r_x.below B
  replace bb := below_go bb B
  clear B hb
  rw [show splitL [0, 1] [1, 1] = (1, 2) by decide +kernel]
  clear r_f
  clear r_g
  go_wp2_with fail
  refine (sameInts_any _ _ 3 3 _ _ [0, 1, 1] [0, 1, 1] _ rfl rfl (by decide) (r_x.alloc _) (row_lit (iv [0, 1, 1]) 3 (by simp))).mono ?_
  rintro e w3 ⟨rfl, q, hq⟩
  have hb := below_of hq
  clear hq
  have B := below_go (below_al (Below.refl _ _) _) hb
  have r_y : Row w3 (some ⟨w2.heap.size, 0, none⟩) (iv [0, 1, 1]) := Row.below (row_lit (iv [0, 1, 1]) 3 (by simp)) hb
  replace r_x := r_x.below B
  replace bb := below_go bb B
  clear B hb
  rw [show decide (([0, 1, 1] : List Int) = [0, 1, 1]) = true by decide]
  clear r_x
  clear r_y
  go_wp2_with fail
  refine (front_any _ _ 0 1 _ _ [] [1] _ rfl rfl (by decide) (by decide) (Row.nil _ _) (row_lit (iv [1]) 3 (by simp))).mono ?_
  rintro e w4 ⟨v, rfl, hv, hb⟩
  have B := below_go (below_al (Below.refl _ _) _) hb
  have r_b : Row w4 (some ⟨w3.heap.size, 0, none⟩) (iv [1]) := Row.below (row_lit (iv [1]) 3 (by simp)) hb
  replace bb := below_go bb B
  clear B hb
  rw [show frontL [] [1] = [0, 0] by decide +kernel] at hv
  obtain ⟨V_f, c_f, rfl, _, _, r_f, _⟩ := own_slice hv
  clear hv
  clear r_b
  clear r_f
  go_wp2_with fail
  refine (back_any _ _ 0 0 _ _ [] [] _ rfl rfl (by decide) (by decide) (Row.nil _ _) (Row.nil _ _)).mono ?_
  rintro e w5 ⟨v, rfl, hv, hb⟩
  have B := below_go (Below.refl _ _) hb
  replace bb := below_go bb B
  clear B hb
  rw [show backL [] [] = [0] by decide +kernel] at hv
  obtain ⟨V_f, c_f, rfl, _, _, r_f, _⟩ := own_slice hv
  clear hv
  clear r_f
  go_wp2_with fail
  go_ret
  exact Yes.of bb

end Go.Proofs.Ytikmmbplcjhhiaa
