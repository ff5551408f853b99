/-
  What the document tells of chapter 8 holds: awake returns true.
-/
import Derived.Test.YtdgijpbgbhpffaaGrT
import Derived.Test.YtdgijpbgbhpffaaGrK
import Derived.Test.YtdgijpbgbhpffaaLn1
import Derived.Test.YtdgijpbgbhpffaaFw1
import Derived.Test.YtdgijpbgbhpffaaKnK
namespace Go.Proofs.Ytdgijpbgbhpffaa
open Go.RowKit

theorem k_dist : dist [1, 2, 3, 4] [2, 9, 4, 3] = 4 := by unfold dist; rw [k_awake]; rfl

set_option maxRecDepth 100000 in
set_option maxHeartbeats 1600000 in
theorem awake8 (w : World) : Calls Try.prog 11 #[] w (Yes w) := by
  go_enter Try.func11, Try.ntmps11
  go_wp2_with fail
  refine (prun_any _ _ 4 4 _ _ [1, 2, 3, 4] [2, 9, 4, 3] _ rfl rfl (by decide) (by decide) ((row_lit (iv [1, 2, 3, 4]) 3 (by simp)).alloc _) (row_lit (iv [2, 9, 4, 3]) 3 (by simp))).mono ?_
  rintro e w1 ⟨v_l, l_l, P_l, rfl, eP, hg, hv, hb⟩
  have B := below_go (below_al (below_al (Below.refl _ _) _) _) hb
  have r_a : Row w1 (some ⟨w.heap.size, 0, none⟩) (iv [1, 2, 3, 4]) := Row.below ((row_lit (iv [1, 2, 3, 4]) 3 (by simp)).alloc _) hb
  have r_b : Row w1 (some ⟨w.heap.size + 1, 0, none⟩) (iv [2, 9, 4, 3]) := Row.below (row_lit (iv [2, 9, 4, 3]) 3 (by simp)) hb
  have bb := B
  clear B hb
  rw [hg.2, k_awake] at hv
  obtain rfl : P_l = 16 := by rw [eP]; rfl
  obtain ⟨V_l, c_l, rfl, _, _, r_l, _⟩ := own_sliceS hv
  clear hv hg eP
  clear r_l
  go_wp2_with fail
  refine (pbehind_any _ _ 4 4 _ _ [1, 2, 3, 4] [2, 9, 4, 3] _ rfl rfl (by decide) (by decide) r_a r_b).mono ?_
  rintro e w2 ⟨T_x, B_x, rfl, _, tab_x, hb⟩
  have B := below_go (Below.refl _ _) hb
  replace r_a := r_a.below B
  replace r_b := r_b.below B
  replace bb := below_go bb B
  clear B hb
  clear tab_x
  go_wp2_with fail
  refine (ahead_any _ _ 4 4 _ _ [1, 2, 3, 4] [2, 9, 4, 3] _ rfl rfl (by decide) (by decide) r_a r_b).mono ?_
  rintro e w3 ⟨T_y, B_y, rfl, _, tab_y, hb⟩
  have B := below_go (Below.refl _ _) hb
  replace r_a := r_a.below B
  replace r_b := r_b.below B
  replace bb := below_go bb B
  clear B hb
  clear tab_y
  go_wp2_with fail
  refine (plen_any _ _ 4 4 _ _ [1, 2, 3, 4] [2, 9, 4, 3] _ rfl rfl (by decide) (by decide) r_a r_b).mono ?_
  rintro e w4 ⟨rfl, hb⟩
  have B := below_go (Below.refl _ _) hb
  replace r_a := r_a.below B
  replace r_b := r_b.below B
  replace bb := below_go bb B
  clear B hb
  rw [k_awake]
  go_wp2_with fail
  refine (pdist_any _ _ 4 4 _ _ [1, 2, 3, 4] [2, 9, 4, 3] _ rfl rfl (by decide) (by decide) r_a r_b).mono ?_
  rintro e w5 ⟨rfl, hb⟩
  have B := below_go (Below.refl _ _) hb
  replace r_a := r_a.below B
  replace r_b := r_b.below B
  replace bb := below_go bb B
  clear B hb
  rw [k_dist]
  go_wp2_with fail
  go_ret
  exact Yes.of bb

end Go.Proofs.Ytdgijpbgbhpffaa
