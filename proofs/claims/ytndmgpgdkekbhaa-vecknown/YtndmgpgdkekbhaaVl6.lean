/-
  Core of the statement VecKnown (over the contracts of package vec).
-/
import Derived.Test.YtndmgpgdkekbhaaVl1
namespace Go.Proofs.Ytndmgpgdkekbhaa
open Go.RowKit

theorem vk2 : ∀ j, j < 64 * 1 → (decide (j < wid 4) && bt [255, 255] j) = bt [15] j := by decide +kernel
theorem vk3 : ∀ j, j < 64 * 2 → (decide (j < wid 66) && !bt [5] j) = bt [18446744073709551610, 3] j := by decide +kernel
theorem vk4 : ∀ j, j < 64 * 2 → difB [0, 1] [1] j = bt [18446744073709551615, 0] j := by decide +kernel
theorem vk5 : ∀ j, j < 64 * 1 → (bt [0] j || decide ((j : Int) = 63)) = bt [9223372036854775808] j := by decide +kernel
theorem vk6 : ∀ j, j < 64 * 1 → (bt [1] j || decide ((j : Int) = 64)) = bt [1] j := by decide +kernel

set_option maxRecDepth 100000 in
set_option maxHeartbeats 3200000 in
theorem vecKnown_core (hA : Op2OK 20 sumB) (hW : WordsOK) (hO : OnesOK) (hG : GetOK) (hS : Op2OK 12 difB) (hD : Op2OK 18 (fun x y j => bt x j && bt y j)) (hF : Op1OK 10 bt) (hN : Op1OK 11 (fun x j => !bt x j)) (hT : SetOK) (hC : CountOK) (w : World) :
    Calls Try.prog 3 #[] w (Yes w) := by
  go_enter Try.func3, Try.ntmps3
  go_wp2_with fail
  refine (awake_core hA hW hO hG _).mono ?_
  rintro e w1 ⟨rfl, b1⟩
  go_wp2_with fail
  refine (hF _ 2 2 [255, 255] 4 _ rfl (by decide) (by decide) (by decide) (i64_small (by decide)) (row_lit0 w1 (uv [255, 255]) 25) (wd_dec (by decide))).mono ?_
  rintro e w2 ⟨v, x, rfl, hx, wx, bx, ox, hb⟩
  have hbb := (below_go (below_a1 w1 _) hb)
  rw [show wds 4 = 1 by decide] at hx bx
  have ex := made_is [15] hx wx bx rfl (wd_dec (by decide)) vk2
  subst ex
  obtain ⟨Pa, ca, rfl, _, _, ra2, _⟩ := own_slice ox
  clear hx wx bx ox hb
  have b2 := below_go b1 hbb
  clear b1
  clear hbb
  go_wp2_with fail
  refine (hN _ 1 1 [5] 66 _ rfl (by decide) (by decide) (by decide) (i64_small (by decide)) (row_lit0 w2 (uv [5]) 25) (wd_dec (by decide))).mono ?_
  rintro e w3 ⟨v, x, rfl, hx, wx, bx, ox, hb⟩
  have hbb := (below_go (below_a1 w2 _) hb)
  rw [show wds 66 = 2 by decide] at hx bx
  have ex := made_is [18446744073709551610, 3] hx wx bx rfl (wd_dec (by decide)) vk3
  subst ex
  obtain ⟨Pb, cb, rfl, _, _, rb3, _⟩ := own_slice ox
  clear hx wx bx ox hb
  have b3 := below_go b2 hbb
  have ra3 := ra2.below hbb
  clear b2 ra2
  clear hbb
  go_wp2_with fail
  refine (hS _ _ 2 1 2 1 [0, 1] [1] _ rfl rfl (by decide) (by decide) (by decide) (by decide) (by decide) (by decide) ((row_lit0 w3 (uv [0, 1]) 25).alloc _) (row_lit1 w3 _ (uv [1]) 25) (wd_dec (by decide)) (wd_dec (by decide))).mono ?_
  rintro e w4 ⟨v, x, rfl, hx, wx, bx, ox, hb⟩
  have hbb := (below_go (below_alloc2 w3 _ _) hb)
  have ex := made_is [18446744073709551615, 0] hx wx bx rfl (wd_dec (by decide)) vk4
  subst ex
  obtain ⟨Pc, cc, rfl, _, _, rc4, _⟩ := own_slice ox
  clear hx wx bx ox hb
  have b4 := below_go b3 hbb
  have ra4 := ra3.below hbb
  have rb4 := rb3.below hbb
  clear b3 ra3 rb3
  clear hbb
  go_wp2_with fail
  refine (hT _ 1 1 63 [0] _ rfl (by decide) (by decide) (by decide) (i64_small (by decide)) (row_lit0 w4 (uv [0]) 25) (wd_dec (by decide))).mono ?_
  rintro e w5 ⟨v, x, rfl, hx, wx, bx, ox, hb⟩
  have hbb := (below_go (below_a1 w4 _) hb)
  have ex := made_is [9223372036854775808] hx wx bx rfl (wd_dec (by decide)) vk5
  subst ex
  obtain ⟨Pd, cd, rfl, _, _, rd5, _⟩ := own_slice ox
  clear hx wx bx ox hb
  have b5 := below_go b4 hbb
  have ra5 := ra4.below hbb
  have rb5 := rb4.below hbb
  have rc5 := rc4.below hbb
  clear b4 ra4 rb4 rc4
  clear hbb
  go_wp2_with fail
  refine (hT _ 1 1 64 [1] _ rfl (by decide) (by decide) (by decide) (i64_small (by decide)) (row_lit0 w5 (uv [1]) 25) (wd_dec (by decide))).mono ?_
  rintro e w6 ⟨v, x, rfl, hx, wx, bx, ox, hb⟩
  have hbb := (below_go (below_a1 w5 _) hb)
  have ex := made_is [1] hx wx bx rfl (wd_dec (by decide)) vk6
  subst ex
  obtain ⟨Pe, ce, rfl, _, _, re6, _⟩ := own_slice ox
  clear hx wx bx ox hb
  have b6 := below_go b5 hbb
  have ra6 := ra5.below hbb
  have rb6 := rb5.below hbb
  have rc6 := rc5.below hbb
  have rd6 := rd5.below hbb
  clear b5 ra5 rb5 rc5 rd5
  clear hbb
  go_wp2_with fail
  refine (hW (-1) _ (i64_small (by decide))).mono ?_
  rintro e w7 ⟨rfl, hb⟩
  have hbb := hb
  rw [show wds (-1) = 0 by decide]
  clear hb
  have b7 := below_go b6 hbb
  have ra7 := ra6.below hbb
  have rb7 := rb6.below hbb
  have rc7 := rc6.below hbb
  have rd7 := rd6.below hbb
  have re7 := re6.below hbb
  clear b6 ra6 rb6 rc6 rd6 re6
  clear hbb
  go_wp2_with fail
  refine (hW 0 _ (i64_small (by decide))).mono ?_
  rintro e w8 ⟨rfl, hb⟩
  have hbb := hb
  rw [show wds 0 = 0 by decide]
  clear hb
  have b8 := below_go b7 hbb
  have ra8 := ra7.below hbb
  have rb8 := rb7.below hbb
  have rc8 := rc7.below hbb
  have rd8 := rd7.below hbb
  have re8 := re7.below hbb
  clear b7 ra7 rb7 rc7 rd7 re7
  clear hbb
  go_wp2_with fail
  refine (hW 64 _ (i64_small (by decide))).mono ?_
  rintro e w9 ⟨rfl, hb⟩
  have hbb := hb
  rw [show wds 64 = 1 by decide]
  clear hb
  have b9 := below_go b8 hbb
  have ra9 := ra8.below hbb
  have rb9 := rb8.below hbb
  have rc9 := rc8.below hbb
  have rd9 := rd8.below hbb
  have re9 := re8.below hbb
  clear b8 ra8 rb8 rc8 rd8 re8
  clear hbb
  go_wp2_with fail
  refine (hW 4611686018427387904 _ (by unfold I64; decide)).mono ?_
  rintro e w10 ⟨rfl, hb⟩
  have hbb := hb
  rw [show wds 4611686018427387904 = 16384 by decide]
  clear hb
  have b10 := below_go b9 hbb
  have ra10 := ra9.below hbb
  have rb10 := rb9.below hbb
  have rc10 := rc9.below hbb
  have rd10 := rd9.below hbb
  have re10 := re9.below hbb
  clear b9 ra9 rb9 rc9 rd9 re9
  clear hbb
  go_wp2_with fail
  refine (hO (-5) _ (i64_small (by decide))).mono ?_
  rintro e w11 ⟨v, x, rfl, hx, wx, bx, ox, hb⟩
  rw [show wds (-5) = 0 by decide] at hx
  rw [hx] at ox
  obtain ⟨PX, cX, rfl, _, _, _, _⟩ := own_slice ox
  clear hx wx bx ox
  have b11 := below_go b10 hb
  have ra11 := ra10.below hb
  have rb11 := rb10.below hb
  have rc11 := rc10.below hb
  have rd11 := rd10.below hb
  have re11 := re10.below hb
  clear b10 ra10 rb10 rc10 rd10 re10
  clear hb
  obtain ⟨ga, oa, rfl, ka0⟩ := ra11.word (k := 0) (by decide)
  have ma0 : w11.cell? ⟨ga, oa, none⟩ = some (.int .u64 15) := ka0
  clear ka0 ra11
  obtain ⟨gb, ob, rfl, kb0⟩ := rb11.word (k := 0) (by decide)
  obtain ⟨_, _, e1, kb1⟩ := rb11.word (k := 1) (by decide)
  cases e1
  have mb0 : w11.cell? ⟨gb, ob, none⟩ = some (.int .u64 18446744073709551610) := kb0
  have mb1 : w11.cell? ⟨gb, ob + 1, none⟩ = some (.int .u64 3) := kb1
  clear kb0 kb1 rb11
  obtain ⟨gc, oc, rfl, kc0⟩ := rc11.word (k := 0) (by decide)
  obtain ⟨_, _, e1, kc1⟩ := rc11.word (k := 1) (by decide)
  cases e1
  have mc0 : w11.cell? ⟨gc, oc, none⟩ = some (.int .u64 18446744073709551615) := kc0
  have mc1 : w11.cell? ⟨gc, oc + 1, none⟩ = some (.int .u64 0) := kc1
  clear kc0 kc1 rc11
  obtain ⟨gd, od, rfl, kd0⟩ := rd11.word (k := 0) (by decide)
  have md0 : w11.cell? ⟨gd, od, none⟩ = some (.int .u64 9223372036854775808) := kd0
  clear kd0 rd11
  obtain ⟨ge, oe, rfl, ke0⟩ := re11.word (k := 0) (by decide)
  have me0 : w11.cell? ⟨ge, oe, none⟩ = some (.int .u64 1) := ke0
  clear ke0 re11
  go_wp2_with fail
  refine (hG none 0 0 0 [] _ rfl (by decide) (by decide) (by decide) (i64_small (by decide)) (Row.nil _ _) (wd_dec (by decide))).mono ?_
  rintro e w12 ⟨rfl, hb⟩
  have hbb := hb
  rw [show btI [] 0 = false by decide]
  clear hb
  have b12 := below_go b11 hbb
  clear b11
  clear hbb
  clear ma0 mb0 mb1 mc0 mc1 md0 me0
  go_wp2_with fail
  refine (hG _ 1 1 (-1) [1] _ rfl (by decide) (by decide) (by decide) (i64_small (by decide)) (row_lit0 w12 (uv [1]) 25) (wd_dec (by decide))).mono ?_
  rintro e w13 ⟨rfl, hb⟩
  have hbb := (below_go (below_a1 w12 _) hb)
  rw [show btI [1] (-1) = false by decide]
  clear hb
  have b13 := below_go b12 hbb
  clear b12
  clear hbb
  go_wp2_with fail
  refine (hG _ 1 1 4611686018427387904 [1] _ rfl (by decide) (by decide) (by decide) (by unfold I64; decide) (row_lit0 w13 (uv [1]) 25) (wd_dec (by decide))).mono ?_
  rintro e w14 ⟨rfl, hb⟩
  have hbb := (below_go (below_a1 w13 _) hb)
  rw [show btI [1] 4611686018427387904 = false by decide]
  clear hb
  have b14 := below_go b13 hbb
  clear b13
  clear hbb
  go_wp2_with fail
  refine (hC _ 2 2 [7, 7] 66 _ rfl (by decide) (by decide) (by decide) (i64_small (by decide)) (row_lit0 w14 (uv [7, 7]) 25) (wd_dec (by decide))).mono ?_
  rintro e w15 ⟨rfl, hb⟩
  have hbb := (below_go (below_a1 w14 _) hb)
  rw [show cnt (bt [7, 7]) (wid 66) = 5 by decide +kernel]
  clear hb
  have b15 := below_go b14 hbb
  clear b14
  clear hbb
  go_wp2_with fail
  refine (hC _ 1 1 [7] (-1) _ rfl (by decide) (by decide) (by decide) (i64_small (by decide)) (row_lit0 w15 (uv [7]) 25) (wd_dec (by decide))).mono ?_
  rintro e w16 ⟨rfl, hb⟩
  have hbb := (below_go (below_a1 w15 _) hb)
  rw [show cnt (bt [7]) (wid (-1)) = 0 by decide +kernel]
  clear hb
  have b16 := below_go b15 hbb
  clear b15
  clear hbb
  go_wp2_with fail
  refine (hD none none 0 0 0 0 [] [] _ rfl rfl (by decide) (by decide) (by decide) (by decide) (by decide) (by decide) (Row.nil _ _) (Row.nil _ _) (wd_dec (by decide)) (wd_dec (by decide))).mono ?_
  rintro e w17 ⟨v, x, rfl, hx, wx, bx, ox, hb⟩
  rw [show max 0 0 = 0 by decide] at hx
  rw [hx] at ox
  obtain ⟨PX, cX, rfl, _, _, _, _⟩ := own_slice ox
  clear hx wx bx ox
  have b17 := below_go b16 hb
  clear b16
  clear hb
  go_wp2_with fail
  go_ret
  exact Yes.of b17

end Go.Proofs.Ytndmgpgdkekbhaa
