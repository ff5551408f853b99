/-
  What the document tells of chapter 17 holds: awake returns true.
-/
import Derived.Test.YtdkcgehjokdnoaaSnW
namespace Go.Proofs.Ytdkcgehjokdnoaa
open Go.RowKit

set_option maxRecDepth 100000 in
set_option maxHeartbeats 1600000 in
theorem awake17 (w : World) : Calls Try.prog 8 #[] w (Yes w) := by
  go_enter Try.func8, Try.ntmps8
  go_wp2_with fail
  refine (down_any _ _ 3 3 3 3 (1) (0) [1, 2, 3] [2, 3, 4] _ rfl rfl (by decide) (by decide) (by decide) (by decide) ((row_lit (iv [1, 2, 3]) 3 (by simp)).alloc _) (row_lit (iv [2, 3, 4]) 3 (by simp))).mono ?_
  rintro e w1 ⟨rfl, q, hq⟩
  have hb := below_of hq
  clear hq
  have B := below_go (below_al (below_al (Below.refl _ _) _) _) hb
  have r_r : Row w1 (some ⟨w.heap.size, 0, none⟩) (iv [1, 2, 3]) := Row.below ((row_lit (iv [1, 2, 3]) 3 (by simp)).alloc _) hb
  have r_s : Row w1 (some ⟨w.heap.size + 1, 0, none⟩) (iv [2, 3, 4]) := Row.below (row_lit (iv [2, 3, 4]) 3 (by simp)) hb
  have bb := B
  clear B hb
  rw [show dnI [1, 2, 3] [2, 3, 4] (1) (0) = 2 by decide +kernel]
  go_wp2_with fail
  refine (up_any _ _ 3 3 3 3 (3) (2) [1, 2, 3] [2, 3, 4] _ rfl rfl (by decide) (by decide) r_r r_s).mono ?_
  rintro e w2 ⟨rfl, q, hq⟩
  have hb := below_of hq
  clear hq
  have B := below_go (Below.refl _ _) hb
  replace r_r := r_r.below B
  replace r_s := r_s.below B
  replace bb := below_go bb B
  clear B hb
  rw [show bkI [1, 2, 3] [2, 3, 4] (3) (2) = 2 by decide +kernel]
  go_wp2_with fail
  refine (slide_any _ _ 3 3 3 3 (-1) (0) [1, 2, 3] [2, 3, 4] _ rfl rfl (by decide) (by decide) (by decide) (by decide) r_r r_s).mono ?_
  rintro e w3 ⟨rfl, q, hq⟩
  have hb := below_of hq
  clear hq
  have B := below_go (Below.refl _ _) hb
  replace r_r := r_r.below B
  replace r_s := r_s.below B
  replace bb := below_go bb B
  clear B hb
  rw [show slI [1, 2, 3] [2, 3, 4] (-1) (0) = 2 by decide +kernel]
  go_wp2_with fail
  go_ret
  exact Yes.of bb

end Go.Proofs.Ytdkcgehjokdnoaa
