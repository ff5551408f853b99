/-
  Chapter 5's awake, over the contracts of package vec.
-/
import Derived.Test.YtndmgpgdkekbhaaVl0
namespace Go.Proofs.Ytndmgpgdkekbhaa
open Go.RowKit

theorem wd_dec {x : List Nat} (h : (x.all fun u => decide (u < 18446744073709551616)) = true) : Wd x := fun u hu => by
  rw [List.all_eq_true] at h
  simpa using h u hu
theorem aw1 : ∀ j, j < 64 * 2 → sumB [18446744073709551615, 0] [1] j = bt [0, 1] j := by decide +kernel
theorem aw2 : ∀ j, j < 64 * 1 → sumB [18446744073709551615] [1] j = bt [0] j := by decide +kernel
theorem aw3 : ∀ j, j < 64 * 1 → (decide (j < 3) && true) = bt [7] j := by decide +kernel

set_option maxRecDepth 100000 in
set_option maxHeartbeats 1600000 in
theorem awake_core (hA : Op2OK 20 sumB) (hW : WordsOK) (hO : OnesOK) (hG : GetOK) (w : World) : Calls Try.prog 9 #[] w (Yes w) := by
  go_enter Try.func9, Try.ntmps9
  go_wp2_with fail
  refine (hA _ _ 2 1 2 1 [18446744073709551615, 0] [1] _ rfl rfl (by decide) (by decide) (by decide) (by decide) (by decide) (by decide) ((row_lit0 w (uv [18446744073709551615, 0]) 25).alloc _) (row_lit1 w _ (uv [1]) 25) (wd_dec (by decide)) (wd_dec (by decide))).mono ?_
  rintro e w1 ⟨v, x, rfl, hx, wx, bx, ox, hb⟩
  have b1 := below_go (below_alloc2 w _ _) hb
  have ex := made_is [0, 1] hx wx bx rfl (wd_dec (by decide)) aw1
  subst ex
  obtain ⟨X, cX, rfl, _, _, rX, _⟩ := own_slice ox
  clear hx wx bx ox hb
  go_wp2_with fail
  refine (hA _ _ 1 1 1 1 [18446744073709551615] [1] _ rfl rfl (by decide) (by decide) (by decide) (by decide) (by decide) (by decide) ((row_lit0 w1 (uv [18446744073709551615]) 25).alloc _) (row_lit1 w1 _ (uv [1]) 25) (wd_dec (by decide)) (wd_dec (by decide))).mono ?_
  rintro e w2 ⟨v, y, rfl, hy, wy, b_y, oy, hb⟩
  have hb2 := below_go (below_alloc2 w1 _ _) hb
  have b2 := below_go b1 hb2
  have rX2 := rX.below hb2
  have ey := made_is [0] hy wy b_y rfl (wd_dec (by decide)) aw2
  subst ey
  obtain ⟨Y, cY, rfl, _, _, rY, _⟩ := own_slice oy
  clear hy wy b_y oy hb hb2 b1 rX
  obtain ⟨g, o, rfl, k0⟩ := rX2.word (k := 0) (by decide)
  obtain ⟨_, _, e1, k1⟩ := rX2.word (k := 1) (by decide)
  cases e1
  obtain ⟨g', o', rfl, l0⟩ := rY.word (k := 0) (by decide)
  have k0' : w2.cell? ⟨g, o, none⟩ = some (.int .u64 0) := k0
  have k1' : w2.cell? ⟨g, o + 1, none⟩ = some (.int .u64 1) := k1
  have l0' : w2.cell? ⟨g', o', none⟩ = some (.int .u64 0) := l0
  clear k0 k1 l0 rX2 rY
  go_wp2_with fail
  refine (hW 65 _ (i64_small (by decide))).mono ?_
  rintro e w3 ⟨rfl, hb⟩
  have b3 := below_go b2 hb
  rw [show wds 65 = 2 by decide]
  clear hb b2 k0' k1' l0'
  go_wp2_with fail
  refine (hO 3 _ (i64_small (by decide))).mono ?_
  rintro e w4 ⟨v, y, rfl, hy, wy, b_y, oy, hb⟩
  have b4 := below_go b3 hb
  rw [show wds 3 = 1 by decide] at hy b_y
  rw [hy] at oy
  obtain ⟨Y1, c1, rfl, _, _, _, _⟩ := own_slice oy
  clear hy wy b_y oy hb b3
  go_wp2_with fail
  refine (hO 3 _ (i64_small (by decide))).mono ?_
  rintro e w5 ⟨v, y, rfl, hy, wy, b_y, oy, hb⟩
  have b5 := below_go b4 hb
  rw [show wds 3 = 1 by decide] at hy b_y
  have ey := made_is [7] hy wy b_y rfl (wd_dec (by decide)) aw3
  subst ey
  obtain ⟨Y2, c2, rfl, _, _, rY2, _⟩ := own_slice oy
  obtain ⟨g2, o2, rfl, m0⟩ := rY2.word (k := 0) (by decide)
  have m0' : w5.cell? ⟨g2, o2, none⟩ = some (.int .u64 7) := m0
  clear hy wy b_y oy hb b4 m0 rY2
  go_wp2_with fail
  refine (hG _ 2 2 65 [0, 2] _ rfl (by decide) (by decide) (by decide) (i64_small (by decide)) (row_lit0 w5 (uv [0, 2]) 25) (wd_dec (by decide))).mono ?_
  rintro e w6 ⟨rfl, hb⟩
  have b6 := below_go b5 (below_go (below_a1 w5 _) hb)
  rw [show btI [0, 2] 65 = true by decide]
  clear hb b5 m0'
  go_wp2_with fail
  go_ret
  exact Yes.of b6

end Go.Proofs.Ytndmgpgdkekbhaa
