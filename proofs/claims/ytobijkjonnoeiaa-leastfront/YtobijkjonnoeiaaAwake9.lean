/-
  What the document tells of chapter 9 holds: awake returns true.
-/
import Derived.Test.YtobijkjonnoeiaaLsQ
namespace Go.Proofs.Ytobijkjonnoeiaa
open Go.RowKit

set_option maxRecDepth 100000 in
set_option maxHeartbeats 1600000 in
theorem awake9 (w : World) : Calls Try.prog 11 #[] w (Yes w) := by
  go_enter Try.func11, Try.ntmps11
  go_wp2_with fail
  refine (lof_any _ _ 2 2 _ _ [1, 2] [2, 1] _ rfl rfl (by decide) (by decide) (by decide) (by decide) ((row_lit (iv [1, 2]) 3 (by simp)).alloc _) (row_lit (iv [2, 1]) 3 (by simp))).mono ?_
  rintro e w1 ⟨v, rfl, hv, hb⟩
  have B := below_go (below_al (below_al (Below.refl _ _) _) _) hb
  have r_a : Row w1 (some ⟨w.heap.size, 0, none⟩) (iv [1, 2]) := Row.below ((row_lit (iv [1, 2]) 3 (by simp)).alloc _) hb
  have r_b : Row w1 (some ⟨w.heap.size + 1, 0, none⟩) (iv [2, 1]) := Row.below (row_lit (iv [2, 1]) 3 (by simp)) hb
  have bb := B
  clear B hb
  rw [show lst [1, 2] [2, 1] = [(0, 1)] by decide] at hv
  obtain ⟨V_l, c_l, rfl, _, _, r_l, _⟩ := own_sliceS hv
  clear hv
  clear r_a
  clear r_b
  go_wp2_with fail
  refine (lof_any _ _ 2 1 _ _ [5, 5] [5] _ rfl rfl (by decide) (by decide) (by decide) (by decide) ((row_lit (iv [5, 5]) 3 (by simp)).alloc _) (row_lit (iv [5]) 3 (by simp))).mono ?_
  rintro e w2 ⟨v, rfl, hv, hb⟩
  have B := below_go (below_al (below_al (Below.refl _ _) _) _) hb
  have r_a : Row w2 (some ⟨w1.heap.size, 0, none⟩) (iv [5, 5]) := Row.below ((row_lit (iv [5, 5]) 3 (by simp)).alloc _) hb
  have r_b : Row w2 (some ⟨w1.heap.size + 1, 0, none⟩) (iv [5]) := Row.below (row_lit (iv [5]) 3 (by simp)) hb
  replace r_l := r_l.below B
  replace bb := below_go bb B
  clear B hb
  rw [show lst [5, 5] [5] = [(0, 0)] by decide] at hv
  obtain ⟨V_m, c_m, rfl, _, _, r_m, _⟩ := own_sliceS hv
  clear hv
  clear r_a
  clear r_b
  go_wp2_with fail
  refine (lfirst_any _ _ 2 1 _ _ [5, 5] [5] _ rfl rfl (by decide) (by decide) (by decide) (by decide) ((row_lit (iv [5, 5]) 3 (by simp)).alloc _) (row_lit (iv [5]) 3 (by simp))).mono ?_
  rintro e w3 ⟨rfl, hb⟩
  have B := below_go (below_al (below_al (Below.refl _ _) _) _) hb
  have r_a : Row w3 (some ⟨w2.heap.size, 0, none⟩) (iv [5, 5]) := Row.below ((row_lit (iv [5, 5]) 3 (by simp)).alloc _) hb
  have r_b : Row w3 (some ⟨w2.heap.size + 1, 0, none⟩) (iv [5]) := Row.below (row_lit (iv [5]) 3 (by simp)) hb
  replace r_l := r_l.below B
  replace r_m := r_m.below B
  replace bb := below_go bb B
  clear B hb
  rw [show hdP (lst [5, 5] [5]) = (0, 0) by decide]
  rw [show decide (0 < (lst [5, 5] [5]).length) = true by decide]
  clear r_a
  clear r_b
  obtain ⟨g_l, o_l, rfl, c0_l, d0_l⟩ := r_l.pair (k := 0) (by decide)
  have x0_l : ∀ z, (w3.alloc z).cell? ⟨g_l, o_l, none⟩ = some (.int .i64 0) := fun z => cell_al (by simpa using c0_l) z
  have y0_l : ∀ z, (w3.alloc z).cell? ⟨g_l, o_l + 1, none⟩ = some (.int .i64 1) := fun z => cell_al (by simpa using d0_l) z
  clear c0_l d0_l
  obtain ⟨g_m, o_m, rfl, c0_m, d0_m⟩ := r_m.pair (k := 0) (by decide)
  have x0_m : ∀ z, (w3.alloc z).cell? ⟨g_m, o_m, none⟩ = some (.int .i64 0) := fun z => cell_al (by simpa using c0_m) z
  have y0_m : ∀ z, (w3.alloc z).cell? ⟨g_m, o_m + 1, none⟩ = some (.int .i64 0) := fun z => cell_al (by simpa using d0_m) z
  clear c0_m d0_m
  clear r_l
  go_wp2_with fail
  refine (lis_any _ _ _ 2 1 1 _ _ _ [5, 5] [5] [(0, 0)] _ rfl rfl rfl (by decide) (by decide) (by decide) (by decide) (by decide) ((row_lit (iv [5, 5]) 3 (by simp)).alloc _) (row_lit (iv [5]) 3 (by simp)) (((r_m.alloc _).alloc _).alloc _)).mono ?_
  rintro e w4 ⟨rfl, hb⟩
  have B := below_go (below_al (below_al (below_al (Below.refl _ _) _) _) _) hb
  have r_a : Row w4 (some ⟨w3.heap.size + 1, 0, none⟩) (iv [5, 5]) := Row.below ((row_lit (iv [5, 5]) 3 (by simp)).alloc _) hb
  have r_b : Row w4 (some ⟨w3.heap.size + 2, 0, none⟩) (iv [5]) := Row.below (row_lit (iv [5]) 3 (by simp)) hb
  replace r_m := r_m.below B
  replace bb := below_go bb B
  clear B hb
  rw [show decide ([(0, 0)] = lst [5, 5] [5]) = true by decide]
  go_wp2_with fail
  go_ret
  exact Yes.of bb

end Go.Proofs.Ytobijkjonnoeiaa
