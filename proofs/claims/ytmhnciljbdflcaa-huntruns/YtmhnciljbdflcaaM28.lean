/-
  Words and contracts that the proof leans on.
-/
import Derived.Test.YtmhnciljbdflcaaM23
import Derived.Test.YtmhnciljbdflcaaM22
import Derived.Test.YtmhnciljbdflcaaM3
import Derived.Test.YtmhnciljbdflcaaM11
import Derived.Test.YtmhnciljbdflcaaM27
import Derived.WalkArith
namespace Go.Proofs.Ytmhnciljbdflcaa
open Go.RowKit

theorem few_wfN {n : Int} (h1 : 0 < n) (h2 : n ≤ 1000) (l : List Int) : ∀ x ∈ few n l, (Lit.int .i64 x).wf = true := by
  intro x hx
  unfold few at hx
  obtain ⟨y, _, rfl⟩ := List.mem_map.1 hx
  have a1 := Int.emod_nonneg y (by omega : n ≠ 0)
  have a2 := Int.emod_lt_of_pos y h1
  exact WalkArith.wf_i64 (by omega)
/-- How many steps one number less makes. -/
theorem alike_drop {x y : List Int} {n : Nat} (hn : x.length = n) (h0 : n ≠ 0) : alike x y = alike (x.take 1) y + alike (x.drop 1) y := by
  cases x with
  | nil => simp at hn; omega
  | cons z x =>
    rw [alike_cons]
    rw [show (z :: x).take 1 = [z] from rfl, show (z :: x).drop 1 = x from rfl, alike_cons]
    rw [show alike [] y = 0 from rfl]
    omega
theorem lcs_drop {x y : List Int} {n : Nat} (hn : x.length = n) (h0 : n ≠ 0) : lcs (x.drop 1) y ≤ lcs x y := by
  cases x with
  | nil => simp at hn; omega
  | cons z x => exact (lcs_grow_front x y z).1
/-- A threshold's place. -/
theorem thr_place {x y : List Int} {k : Nat} {z : Int} (h : (thrL (px x y x.length) y.length)[k]? = some z) : ∃ j : Nat, z = (j : Int) ∧ j < y.length ∧ lcs x (y.take j) = k ∧ lcs x (y.take (j + 1)) = k + 1 := by
  obtain ⟨j, h1, h2, h3, h4⟩ := thr_at (px_zero_right x y _) (fun j => px_h x y _ j) h
  unfold px at h3 h4
  rw [List.take_length] at h3 h4
  exact ⟨j, h1, h2, h3, h4⟩

end Go.Proofs.Ytmhnciljbdflcaa

namespace Go.Proofs.Ytmhnciljbdflcaa
open Go.RowKit

set_option maxRecDepth 100000 in
set_option maxHeartbeats 1600000 in
theorem awake16 (w : World) : Calls Try.prog 9 #[] w (Yes w) := by
  go_enter Try.func9, Try.ntmps9
  go_wp2_with fail
  refine (hrun_any _ _ 3 2 _ _ [1, 2, 1] [1, 1] _ rfl rfl (by decide) (by decide) ((row_lit (iv [1, 2, 1]) 3 (by simp)).alloc _) (row_lit (iv [1, 1]) 3 (by simp)) (by decide) (by decide)).mono ?_
  rintro e w1 ⟨v, l, rfl, ⟨hG, hL⟩, hv, hb⟩
  have B := below_go (below_al (below_al (Below.refl _ _) _) _) hb
  have bb := B
  clear B hb
  obtain ⟨_, _, rfl, _, _, _, _⟩ := own_sliceS hv
  clear hv hG
  rw [hL, show lcs [1, 2, 1] [1, 1] = 2 by decide +kernel, show alike [1, 2, 1] [1, 1] = 4 by decide +kernel]
  clear hL
  go_wp2_with fail
  refine (hits_any _ _ 3 2 _ _ [1, 2, 1] [1, 1] _ rfl rfl (by decide) (by decide) ((row_lit (iv [1, 2, 1]) 3 (by simp)).alloc _) (row_lit (iv [1, 1]) 3 (by simp)) (by decide) (by decide)).mono ?_
  rintro e w2 ⟨rfl, hb⟩
  have B := below_go (below_al (below_al (Below.refl _ _) _) _) hb
  replace bb := below_go bb B
  clear B hb
  rw [show alike [1, 2, 1] [1, 1] = 4 by decide +kernel]
  go_wp2_with fail
  refine (hthr_any _ _ 1 2 _ _ [1] [2, 1] _ rfl rfl (by decide) (by decide) ((row_lit (iv [1]) 3 (by simp)).alloc _) (row_lit (iv [2, 1]) 3 (by simp)) (by decide) (by decide)).mono ?_
  rintro e w3 ⟨v, rfl, hv, hb⟩
  have B := below_go (below_al (below_al (Below.refl _ _) _) _) hb
  replace bb := below_go bb B
  clear B hb
  rw [show thrL (px [1] [2, 1] 1) 2 = [1] by decide +kernel] at hv
  obtain ⟨V_x, c_x, rfl, _, _, r_x, _⟩ := own_slice hv
  clear hv
  go_wp2_with fail
  refine (sameInts_any _ _ 1 1 _ _ [1] [1] _ rfl rfl (by decide) (r_x.alloc _) (row_lit (iv [1]) 3 (by simp))).mono ?_
  rintro e w4 ⟨rfl, q, hq⟩
  have hb := below_of hq
  clear hq
  have B := below_go (below_al (Below.refl _ _) _) hb
  have r_y : Row w4 (some ⟨w3.heap.size, 0, none⟩) (iv [1]) := Row.below (row_lit (iv [1]) 3 (by simp)) hb
  replace r_x := r_x.below B
  replace bb := below_go bb B
  clear B hb
  rw [show decide (([1] : List Int) = [1]) = true by decide]
  clear r_x
  clear r_y
  go_wp2_with fail
  go_ret
  exact Yes.of bb

end Go.Proofs.Ytmhnciljbdflcaa
