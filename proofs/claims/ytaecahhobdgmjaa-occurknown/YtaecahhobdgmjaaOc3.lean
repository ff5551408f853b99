/-
  Core of the statement OccurKnown (over the contracts of package occur).
-/
import Derived.Test.YtaecahhobdgmjaaOc0
namespace Go.Proofs.Ytaecahhobdgmjaa
open Go.RowKit

set_option maxRecDepth 100000 in
set_option maxHeartbeats 3200000 in
theorem occurKnown_core (hO : OfOK) (hX : NextOK) (hH : HitsOK) (hM : MostOK) (w : World) : Calls Try.prog 3 #[] w (Yes w) := by
  go_enter Try.func3, Try.ntmps3
  have b0 := Below.refl w.heap.size w
  go_wp2_with fail
  refine (hO 2 _ 1 1 [2] _ (i64_small (by decide)) rfl (by decide) (by decide) (by decide) (row_lit0 w (iv [2]) 3)).mono ?_
  rintro e w1 ⟨v, rfl, hv, hb⟩
  have b1 := below_go b0 (below_go (below_a1 w _) hb)
  rw [show placesE 2 [2] = 1 by decide]
  rw [show placesU 2 [2] = [] by decide] at hv
  obtain ⟨V1, c1, _, rfl, _, _, _, _, _⟩ := hv
  clear hb b0
  go_wp2_with fail
  refine (hO (-1) _ 0 0 [] _ (i64_small (by decide)) rfl (by decide) (by decide) (by decide) (Row.nil _ _)).mono ?_
  rintro e w2 ⟨v, rfl, hv, hb⟩
  have b2 := below_go b1 hb
  rw [show placesE (-1) [] = 1 by decide]
  rw [show placesU (-1) [] = [] by decide] at hv
  obtain ⟨V2, c2, _, rfl, _, _, _, _, _⟩ := hv
  clear hb b1
  go_wp2_with fail
  refine (hO 2 _ 1 1 [(-1)] _ (i64_small (by decide)) rfl (by decide) (by decide) (by decide) (row_lit0 w2 (iv [(-1)]) 3)).mono ?_
  rintro e w3 ⟨v, rfl, hv, hb⟩
  have b3 := below_go b2 (below_go (below_a1 w2 _) hb)
  rw [show placesE 2 [(-1)] = 1 by decide]
  rw [show placesU 2 [(-1)] = [] by decide] at hv
  obtain ⟨V3, c3, _, rfl, _, _, _, _, _⟩ := hv
  clear hb b2
  go_wp2_with fail
  refine (hO 1048577 _ 0 0 [] _ (i64_small (by decide)) rfl (by decide) (by decide) (by decide) (Row.nil _ _)).mono ?_
  rintro e w4 ⟨v, rfl, hv, hb⟩
  have b4 := below_go b3 hb
  rw [show placesE 1048577 [] = 1 by decide]
  rw [show placesU 1048577 [] = [] by decide] at hv
  obtain ⟨V4, c4, _, rfl, _, _, _, _, _⟩ := hv
  clear hb b3
  go_wp2_with fail
  refine (hO 0 _ 0 0 [] _ (i64_small (by decide)) rfl (by decide) (by decide) (by decide) (Row.nil _ _)).mono ?_
  rintro e w5 ⟨v, rfl, hv, hb⟩
  have b5 := below_go b4 hb
  rw [show placesE 0 [] = 0 by decide]
  rw [show placesU 0 [] = [] by decide] at hv
  obtain ⟨V5, c5, _, rfl, _, _, _, _, _⟩ := hv
  clear hb b4
  go_wp2_with fail
  have hW : ((w5.alloc (.cells #[.int .i64 1, .int .i64 4] 3)).alloc (.cells #[] 3)).heap.size = w5.heap.size + 2 := by simp
  have r1 : Row (((w5.alloc (.cells #[.int .i64 1, .int .i64 4] 3)).alloc (.cells #[] 3)).alloc (.cells #[.slice (some ⟨w5.heap.size, 0, none⟩) 2 2, .slice (some ⟨w5.heap.size + 1, 0, none⟩) 0 0] 26)) (some ⟨w5.heap.size, 0, none⟩) (iv [1, 4]) := ((row_lit0 w5 (iv [1, 4]) 3).alloc _).alloc _
  have rT : Row (((w5.alloc (.cells #[.int .i64 1, .int .i64 4] 3)).alloc (.cells #[] 3)).alloc (.cells #[.slice (some ⟨w5.heap.size, 0, none⟩) 2 2, .slice (some ⟨w5.heap.size + 1, 0, none⟩) 0 0] 26)) (some ⟨w5.heap.size + 2, 0, none⟩) [.slice (some ⟨w5.heap.size, 0, none⟩) 2 2, .slice (some ⟨w5.heap.size + 1, 0, none⟩) 0 0] := by
    have h := row_lit0 ((w5.alloc (.cells #[.int .i64 1, .int .i64 4] 3)).alloc (.cells #[] 3)) [.slice (some ⟨w5.heap.size, 0, none⟩) 2 2, .slice (some ⟨w5.heap.size + 1, 0, none⟩) 0 0] 26
    rw [hW] at h
    exact h
  have bT : Below w5.heap.size w5 (((w5.alloc (.cells #[.int .i64 1, .int .i64 4] 3)).alloc (.cells #[] 3)).alloc (.cells #[.slice (some ⟨w5.heap.size, 0, none⟩) 2 2, .slice (some ⟨w5.heap.size + 1, 0, none⟩) 0 0] 26)) := (below_alloc2 w5 _ _).alloc (by simp; omega) _
  generalize (((w5.alloc (.cells #[.int .i64 1, .int .i64 4] 3)).alloc (.cells #[] 3)).alloc (.cells #[.slice (some ⟨w5.heap.size, 0, none⟩) 2 2, .slice (some ⟨w5.heap.size + 1, 0, none⟩) 0 0] 26)) = w6 at *
  have b6 := below_go b5 bT
  have sT : ISs w6 [.slice (some ⟨w5.heap.size, 0, none⟩) 2 2, .slice (some ⟨w5.heap.size + 1, 0, none⟩) 0 0] [[1, 4], []] := by
    refine ⟨rfl, fun i v l hv hl => ?_⟩
    match i, hv, hl with
    | 0, hv, hl =>
      simp at hv hl
      subst hv
      subst hl
      exact ⟨_, 2, rfl, by decide, by decide, r1, fun e => by cases e⟩
    | 1, hv, hl =>
      simp at hv hl
      subst hv
      subst hl
      exact ⟨_, 0, rfl, by decide, by decide, Row.nil _ _, fun e => by cases e⟩
    | i + 2, hv, hl => simp at hv
  clear bT hW r1 b5
  generalize w5.heap.size = X at *
  have hA : Asc [[1, 4], []] := ⟨by decide, by decide⟩
  refine (hX _ 2 2 _ [[1, 4], []] 0 2 w6 (i64_small (by decide)) (i64_small (by decide)) rfl (by decide) (by decide) hA rT sT).mono ?_
  rintro e w7 ⟨rfl, hb⟩
  have b7 := below_go b6 hb
  have rT := Row.below (w := w6) rT hb
  have sT := ISs.below (w := w6) sT hb
  rw [show nextU [[1, 4], []] 0 2 = (4, true) by decide]
  clear hb b6
  go_wp2_with fail
  refine (hX _ 2 2 _ [[1, 4], []] 0 5 w7 (i64_small (by decide)) (i64_small (by decide)) rfl (by decide) (by decide) hA rT sT).mono ?_
  rintro e w8 ⟨rfl, hb⟩
  have b8 := below_go b7 hb
  have rT := Row.below (w := w7) rT hb
  have sT := ISs.below (w := w7) sT hb
  rw [show nextU [[1, 4], []] 0 5 = (0, false) by decide]
  clear hb b7
  go_wp2_with fail
  refine (hX _ 2 2 _ [[1, 4], []] 2 0 w8 (i64_small (by decide)) (i64_small (by decide)) rfl (by decide) (by decide) hA rT sT).mono ?_
  rintro e w9 ⟨rfl, hb⟩
  have b9 := below_go b8 hb
  have rT := Row.below (w := w8) rT hb
  have sT := ISs.below (w := w8) sT hb
  rw [show nextU [[1, 4], []] 2 0 = (0, false) by decide]
  clear hb b8
  go_wp2_with fail
  refine (hX _ 2 2 _ [[1, 4], []] (-1) 0 w9 (i64_small (by decide)) (i64_small (by decide)) rfl (by decide) (by decide) hA rT sT).mono ?_
  rintro e w10 ⟨rfl, hb⟩
  have b10 := below_go b9 hb
  have rT := Row.below (w := w9) rT hb
  have sT := ISs.below (w := w9) sT hb
  rw [show nextU [[1, 4], []] (-1) 0 = (0, false) by decide]
  clear hb b9
  go_wp2_with fail
  refine (awake_core hO hM _).mono ?_
  rintro e w11 ⟨rfl, hb⟩
  have b11 := below_go b10 hb
  have rT := Row.below (w := w10) rT hb
  have sT := ISs.below (w := w10) sT hb
  clear hb b10
  go_wp2_with fail
  refine (hH _ _ 2 2 5 5 _ [[1, 4], []] [0, 1, 0, 9, -3] _ rfl (by decide) (by decide) (by decide) (by decide) (rT.alloc _) (sT.below (below_a1 w11 _)) rfl (by decide) (by decide) (by decide) (row_lit0 w11 (iv [0, 1, 0, 9, -3]) 3)).mono ?_
  rintro e w12 ⟨rfl, hb⟩
  have b12 := below_go b11 (below_go (below_a1 w11 _) hb)
  rw [show hitsOf [[1, 4], []] [0, 1, 0, 9, -3] = 4 by decide]
  clear hb b11 rT sT
  go_wp2_with fail
  refine (hM _ 0 0 [] [] w12 rfl (by decide) (by decide) (by decide) (by decide) (Row.nil _ _) (ISs.nil _)).mono ?_
  rintro e w13 ⟨rfl, hb⟩
  have b13 := below_go b12 hb
  rw [show mostOf [] = 0 by decide]
  clear hb b12
  go_wp2_with fail
  go_ret
  exact Yes.of b13

end Go.Proofs.Ytaecahhobdgmjaa
