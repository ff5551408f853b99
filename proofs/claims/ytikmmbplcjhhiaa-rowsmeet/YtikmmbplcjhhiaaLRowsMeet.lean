/-
  Proved: for every input tattinglaw10.RowsMeet returns true, and its arguments read afterwards as before.
-/
import Derived.Test.YtikmmbplcjhhiaaAwake10
import Derived.Test.YtikmmbplcjhhiaaArgsI
import Derived.Test.YtikmmbplcjhhiaaFew
import Derived.Test.YtikmmbplcjhhiaaBh2
import Derived.Test.YtikmmbplcjhhiaaSlc
import Derived.Test.YtikmmbplcjhhiaaRnd
import Derived.BigQuiet
namespace Go.Proofs.Ytikmmbplcjhhiaa.rowsMeetP
open Go.ChangeShapes Go.WideShapes Go.ChangeAt Go.RowKit
open Go.ChangeMaps (open_string shut_string)

set_option maxRecDepth 100000 in
set_option maxHeartbeats 3200000 in
theorem rowsMeet_walk (Aa : Option Addr) (na ca : Nat) (a : List Int) (Ab : Option Addr) (nb cb : Nat) (b : List Int) (at0 : Int) (w : World) (ha : ArgI w Aa na ca a) (hb : ArgI w Ab nb cb b) (hat0 : (Lit.int .u8 at0).wf = true) :
    Calls Try.prog 7 #[.slice Aa na ca, .slice Ab nb cb, .int .u8 at0] w (Yes w) := by
  obtain ⟨hna, hca, hma, r_a, hnila, hwfa⟩ := ha
  have Ha := Lib.hid hna
  have Wa := Lib.hid hwfa
  clear hna hwfa
  unfold maxLen at hma
  obtain ⟨hnb, hcb, hmb, r_b, hnilb, hwfb⟩ := hb
  have Hb := Lib.hid hnb
  have Wb := Lib.hid hwfb
  clear hnb hwfb
  unfold maxLen at hmb
  by_cases ga : na ≤ 40
  case neg =>
    go_enter Try.func7, Try.ntmps7
    go_wp2_with fail
    refine (awake10 _).mono ?_
    rintro e w1 ⟨rfl, hb1⟩
    go_wp2_with fail
    go_ret
    exact Yes.of hb1
  by_cases gb : nb ≤ 40
  case neg =>
    go_enter Try.func7, Try.ntmps7
    go_wp2_with fail
    refine (awake10 _).mono ?_
    rintro e w1 ⟨rfl, hb1⟩
    go_wp2_with fail
    go_ret
    exact Yes.of hb1
  have B8 := bounds_u8 hat0
  clear hat0
  go_enter Try.func7, Try.ntmps7
  go_wp2_with fail
  refine (awake10 _).mono ?_
  rintro e w1 ⟨rfl, hb⟩
  have B := below_go (Below.refl _ _) hb
  replace r_a := r_a.below B
  replace r_b := r_b.below B
  have bb := B
  clear B hb
  go_wp2_with fail
  refine (few_any _ na _ a 4 _ Ha.out (by omega) (by decide) (by decide) r_a).mono ?_
  rintro e w2 ⟨v, rfl, hv, hb⟩
  have B := below_go (Below.refl _ _) hb
  replace r_a := r_a.below B
  replace r_b := r_b.below B
  replace bb := below_go bb B
  clear B hb
  have Hx : Hid ((few 4 a).length = na) := by show _ = _; rw [few_length, Ha.out]
  rw [Hx.out] at hv
  obtain ⟨V_x, c_x, rfl, hq_x, hm_x, r_x, hnil_x⟩ := own_slice hv
  clear hv
  generalize few 4 a = x at *
  clear r_a
  go_wp2_with fail
  refine (few_any _ nb _ b 4 _ Hb.out (by omega) (by decide) (by decide) r_b).mono ?_
  rintro e w3 ⟨v, rfl, hv, hb⟩
  have B := below_go (Below.refl _ _) hb
  replace r_b := r_b.below B
  replace r_x := r_x.below B
  replace bb := below_go bb B
  clear B hb
  have Hy : Hid ((few 4 b).length = nb) := by show _ = _; rw [few_length, Hb.out]
  rw [Hy.out] at hv
  obtain ⟨V_y, c_y, rfl, hq_y, hm_y, r_y, hnil_y⟩ := own_slice hv
  clear hv
  generalize few 4 b = y at *
  clear r_b
  obtain ⟨K, hK, hK1, hK2⟩ : ∃ K : Nat, K ≤ na ∧ at0 % ((na : Int) + 1) = (K : Int) ∧ at0.tmod ((na : Int) + 1) = (K : Int) := by
    have h1 := Int.emod_nonneg at0 (show ((na : Int) + 1) ≠ 0 by omega)
    have h2 := Int.emod_lt_of_pos at0 (show (0 : Int) < (na : Int) + 1 by omega)
    exact ⟨(at0 % ((na : Int) + 1)).toNat, by omega, by omega, by rw [Int.tmod_eq_emod_of_nonneg B8.1]; omega⟩
  obtain ⟨m1, m2, m3⟩ := split_meet (a := x) (b := y) (i := K) (by rw [Hx.out]; omega)
  have HFL : Hid ((frontL (x.take K) y).length = nb + 1) := by show _ = _; rw [frontL_length, Hy.out]
  have HBL : Hid ((backL (x.drop K) y).length = nb + 1) := by show _ = _; rw [backL_length, Hy.out]
  have HTk : Hid ((x.take K).length = K) := by show _ = _; rw [List.length_take, Hx.out]; omega
  have HDk : Hid ((x.drop K).length = na - K) := by show _ = _; rw [List.length_drop, Hx.out]
  obtain ⟨s1, s2⟩ := slice_to V_x na c_x K x w3 r_x (by omega)
  obtain ⟨A1, c1, s3, s4, s5⟩ := slice_from V_x na c_x K x w3 r_x Hx.out hq_x hK
  rw [Hy.out] at m1
  have M2 := Lib.hid m2
  have M3 := Lib.hid m3
  clear m2 m3
  have hw4 : IntKind.i64.wrap at0 = at0 := IntWalk.i64_in _ (by omega)
  have hmx : Try.prog.follows .mixedOrders = true := by kernel_rfl
  have hne : ((na : Int) + 1 == 0) = false := by simp; omega
  have hne2 : (na : Int) + 1 ≠ 0 := by omega
  go_wp2_with fail
  refine wp_region_held (S := AnyW) hmx ?_
  refine wpAnyH_take (i := 0) (v := ?v1) rfl (by kernel_rfl) (by kernel_rfl) (by kernel_rfl) (fun _ _ _ h => h) (.inl ⟨by kernel_rfl, ?y1⟩) (anyW _) ?_
  case y1 =>
    rintro w' -
    go_simp
    first | done | with_reducible rfl | rfl
  try simp only [Act.put]
  refine wpAnyH_take (i := 1) (v := ?v2) rfl (by kernel_rfl) (by kernel_rfl) (by kernel_rfl) (fun _ _ _ h => h) (.inl ⟨by kernel_rfl, ?y2⟩) (anyW _) ?_
  case y2 =>
    rintro w' -
    go_simp
    first | done | with_reducible rfl | rfl
  try simp only [Act.put]
  refine wpAnyH_take (i := 2) (v := ?v3) rfl (by kernel_rfl) (by kernel_rfl) (by kernel_rfl) (fun _ _ _ h => h) (.inl ⟨by kernel_rfl, ?y3⟩) (anyW _) ?_
  case y3 =>
    rintro w' -
    go_simp
    first | done | with_reducible rfl | rfl
  try simp only [Act.put]
  refine wpAnyH_take (i := 3) (v := ?v4) rfl (by kernel_rfl) (by kernel_rfl) (by kernel_rfl) (fun _ _ _ h => h) (.inl ⟨by kernel_rfl, ?y4⟩) (anyW _) ?_
  case y4 =>
    rintro w' -
    go_simp
    first | done | with_reducible rfl | rfl
  try simp only [Act.put]
  refine wpAnyH_take (i := 5) (v := ?v5) rfl (by kernel_rfl) (by kernel_rfl) (by kernel_rfl) (fun _ _ _ h => h) (.inl ⟨by kernel_rfl, ?y5⟩) (anyW _) ?_
  case y5 =>
    rintro w' -
    go_simp
    first | done | with_reducible rfl | rfl
  try simp only [Act.put]
  refine wpAnyH_take (i := 6) (v := ?v6) rfl (by kernel_rfl) (by kernel_rfl) (by kernel_rfl) (fun _ _ _ h => h) (.inl ⟨by kernel_rfl, ?y6⟩) (anyW _) ?_
  case y6 =>
    rintro w' -
    go_simp
    first | done | with_reducible rfl | rfl
  try simp only [Act.put]
  refine wpAnyH_take (i := 7) (v := ?v7) rfl (by kernel_rfl) (by kernel_rfl) (by kernel_rfl) (fun _ _ _ h => h) (.inl ⟨by kernel_rfl, ?y7⟩) (anyW _) ?_
  case y7 =>
    rintro w' -
    go_simp
    first | done | with_reducible rfl | rfl
  try simp only [Act.put]
  refine wpAnyH_take (i := 8) (v := ?v8) rfl (by kernel_rfl) (by kernel_rfl) (by kernel_rfl) (fun _ _ _ h => h) (.inl ⟨by kernel_rfl, ?y8⟩) (anyW _) ?_
  case y8 =>
    rintro w' -
    go_simp
    first | done | with_reducible rfl | rfl
  try simp only [Act.put]
  refine held_one (i := 4) (by kernel_rfl) rfl (by kernel_rfl) ?_
  unfold Oper.wp
  go_simp
  refine (front_any V_x V_y K nb c_x c_y (x.take K) y w3.drew HTk.out Hy.out (by omega) (by omega) s2.drew r_y.drew).mono ?_
  rintro e w5 ⟨v, rfl, hv, hb5⟩
  rw [HFL.out] at hv
  obtain ⟨V5, c5, rfl, _, _, r5, _⟩ := own_slice hv
  clear hv
  have bb5 := below_go bb.drew hb5
  have rx5 := Row.below (w := w3.drew) r_x hb5
  have ry5 := Row.below (w := w3.drew) r_y hb5
  have rd5 := Row.below (w := w3.drew) s5 hb5
  clear r_x r_y s2 s5 bb hb5
  refine ⟨(anyW _), ?_⟩
  try simp only [Act.put]
  refine held_one (i := 9) (by kernel_rfl) rfl (by kernel_rfl) ?_
  unfold Oper.wp
  go_simp
  refine (back_any A1 V_y (na - K) nb c1 c_y (x.drop K) y w5 HDk.out Hy.out (by omega) (by omega) rd5 ry5).mono ?_
  rintro e w6 ⟨v, rfl, hv, hb6⟩
  rw [HBL.out] at hv
  obtain ⟨V6, c6, rfl, _, _, r6, _⟩ := own_slice hv
  clear hv
  have bb6 := below_go bb5 hb6
  replace r5 := r5.below hb6
  have rx6 := rx5.below hb6
  have ry6 := ry5.below hb6
  have rd6 := rd5.below hb6
  clear rx5 ry5 rd5 bb5 hb6
  refine ⟨(anyW _), ?_⟩
  try simp only [Act.put]
  refine held_one (i := 10) (by kernel_rfl) rfl (by kernel_rfl) ?_
  unfold Oper.wp
  go_simp
  refine (split_any V5 V6 (nb + 1) (nb + 1) c5 c6 (frontL (x.take K) y) (backL (x.drop K) y) w6 HFL.out HBL.out (by omega) r5 r6).mono ?_
  rintro e w7 ⟨rfl, q, hq⟩
  rw [M2.out]
  have hb7 := below_of hq
  have bb7 := below_go bb6 hb7
  have rx7 := rx6.below hb7
  have ry7 := ry6.below hb7
  have rd7 := rd6.below hb7
  clear hq hb7 bb6 rx6 ry6 rd6 r5 r6 M2
  generalize (splitL (frontL (x.take K) y) (backL (x.drop K) y)).1 = J at *
  refine ⟨(anyW _), ?_⟩
  try simp only [Act.put]
  refine wpAnyH_take (i := 11) (v := ?v9) rfl (by kernel_rfl) (by kernel_rfl) (by kernel_rfl) (fun _ _ _ h => h) (.inl ⟨by kernel_rfl, ?y9⟩) (anyW _) ?_
  case y9 =>
    rintro w' -
    go_simp
    first | done | with_reducible rfl | rfl
  try simp only [Act.put]
  refine wpAnyH_take (i := 12) (v := ?v10) rfl (by kernel_rfl) (by kernel_rfl) (by kernel_rfl) (fun _ _ _ h => h) (.inl ⟨by kernel_rfl, ?y10⟩) (anyW _) ?_
  case y10 =>
    rintro w' -
    go_simp
    first | done | with_reducible rfl | rfl
  try simp only [Act.put]
  refine wpAnyH_take (i := 13) (v := ?v11) rfl (by kernel_rfl) (by kernel_rfl) (by kernel_rfl) (fun _ _ _ h => h) (.inl ⟨by kernel_rfl, ?y11⟩) (anyW _) ?_
  case y11 =>
    rintro w' -
    go_simp
    first | done | with_reducible rfl | rfl
  try simp only [Act.put]
  refine wpAnyH_take (i := 14) (v := ?v12) rfl (by kernel_rfl) (by kernel_rfl) (by kernel_rfl) (fun _ _ _ h => h) (.inl ⟨by kernel_rfl, ?y12⟩) (anyW _) ?_
  case y12 =>
    rintro w' -
    go_simp
    first | done | with_reducible rfl | rfl
  try simp only [Act.put]
  refine wpAnyH_take (i := 15) (v := ?v13) rfl (by kernel_rfl) (by kernel_rfl) (by kernel_rfl) (fun _ _ _ h => h) (.inl ⟨by kernel_rfl, ?y13⟩) (anyW _) ?_
  case y13 =>
    rintro w' -
    go_simp
    first | done | with_reducible rfl | rfl
  try simp only [Act.put]
  refine held_done (by kernel_rfl) ?_
  go_simp
  obtain ⟨t1, t2⟩ := slice_to V_x na c_x K x w7 rx7 (by omega)
  obtain ⟨t3, t4⟩ := slice_to V_y nb c_y J y w7 ry7 (by omega)
  obtain ⟨B1, d1, t5, t6, t7⟩ := slice_from V_y nb c_y J y w7 ry7 Hy.out hq_y (by omega)
  have HTj : Hid ((y.take J).length = J) := by show _ = _; rw [List.length_take, Hy.out]; omega
  have HDj : Hid ((y.drop J).length = nb - J) := by show _ = _; rw [List.length_drop, Hy.out]
  have g1 : decide ((J : Int) < 0) = false := by simp
  have g2 : decide ((nb : Int) < (J : Int)) = false := by simp; omega
  have hl1 := lcs_le_left x y
  rw [Hx.out] at hl1
  clear s1 hK1 hK2 hw4
  go_wp2_with fail
  refine wp_region_held (S := AnyW) hmx ?_
  refine wpAnyH_take (i := 0) (v := ?v14) rfl (by kernel_rfl) (by kernel_rfl) (by kernel_rfl) (fun _ _ _ h => h) (.inl ⟨by kernel_rfl, ?y14⟩) (anyW _) ?_
  case y14 =>
    rintro w' -
    go_simp
    first | done | with_reducible rfl | rfl
  try simp only [Act.put]
  refine wpAnyH_take (i := 1) (v := ?v15) rfl (by kernel_rfl) (by kernel_rfl) (by kernel_rfl) (fun _ _ _ h => h) (.inl ⟨by kernel_rfl, ?y15⟩) (anyW _) ?_
  case y15 =>
    rintro w' -
    go_simp
    first | done | with_reducible rfl | rfl
  try simp only [Act.put]
  refine wpAnyH_take (i := 2) (v := ?v16) rfl (by kernel_rfl) (by kernel_rfl) (by kernel_rfl) (fun _ _ _ h => h) (.inl ⟨by kernel_rfl, ?y16⟩) (anyW _) ?_
  case y16 =>
    rintro w' -
    go_simp
    first | done | with_reducible rfl | rfl
  try simp only [Act.put]
  refine held_one (i := 3) (by kernel_rfl) rfl (by kernel_rfl) ?_
  unfold Oper.wp
  go_simp
  refine (len_any V_x V_y na nb c_x c_y x y w7.drew Hx.out Hy.out (by omega) (by omega) rx7.drew ry7.drew).mono ?_
  rintro e w8 ⟨rfl, hb8⟩
  have bb8 := below_go bb7.drew hb8
  have u1 := Row.below (w := w7.drew) t2 hb8
  have u2 := Row.below (w := w7.drew) t4 hb8
  have u3 := Row.below (w := w7.drew) rd7 hb8
  have u4 := Row.below (w := w7.drew) t7 hb8
  have EE : Hid ((((lcs x y : Nat) : Int) == ((lcs x y : Nat) : Int)) = true) := by show _ = _; simp
  clear rx7 ry7 rd7 t2 t4 t7 bb7 hb8
  refine ⟨(anyW _), ?_⟩
  try simp only [Act.put]
  refine wpAnyH_take (i := 4) (v := ?v17) rfl (by kernel_rfl) (by kernel_rfl) (by kernel_rfl) (fun _ _ _ h => h) (.inl ⟨by kernel_rfl, ?y17⟩) (anyW _) ?_
  case y17 =>
    rintro w' -
    go_simp
    first | done | with_reducible rfl | rfl
  try simp only [Act.put]
  refine wpAnyH_take (i := 5) (v := ?v18) rfl (by kernel_rfl) (by kernel_rfl) (by kernel_rfl) (fun _ _ _ h => h) (.inl ⟨by kernel_rfl, ?y18⟩) (anyW _) ?_
  case y18 =>
    rintro w' -
    go_simp
    first | done | with_reducible rfl | rfl
  try simp only [Act.put]
  refine wpAnyH_take (i := 6) (v := ?v19) rfl (by kernel_rfl) (by kernel_rfl) (by kernel_rfl) (fun _ _ _ h => h) (.inl ⟨by kernel_rfl, ?y19⟩) (anyW _) ?_
  case y19 =>
    rintro w' -
    go_simp
    first | done | with_reducible rfl | rfl
  try simp only [Act.put]
  refine wpAnyH_take (i := 7) (v := ?v20) rfl (by kernel_rfl) (by kernel_rfl) (by kernel_rfl) (fun _ _ _ h => h) (.inl ⟨by kernel_rfl, ?y20⟩) (anyW _) ?_
  case y20 =>
    rintro w' -
    go_simp
    first | done | with_reducible rfl | rfl
  try simp only [Act.put]
  refine wpAnyH_take (i := 8) (v := ?v21) rfl (by kernel_rfl) (by kernel_rfl) (by kernel_rfl) (fun _ _ _ h => h) (.inl ⟨by kernel_rfl, ?y21⟩) (anyW _) ?_
  case y21 =>
    rintro w' -
    go_simp
    first | done | with_reducible rfl | rfl
  try simp only [Act.put]
  refine wpAnyH_take (i := 9) (v := ?v22) rfl (by kernel_rfl) (by kernel_rfl) (by kernel_rfl) (fun _ _ _ h => h) (.inl ⟨by kernel_rfl, ?y22⟩) (anyW _) ?_
  case y22 =>
    rintro w' -
    go_simp
    first | done | with_reducible rfl | rfl
  try simp only [Act.put]
  refine wpAnyH_take (i := 10) (v := ?v23) rfl (by kernel_rfl) (by kernel_rfl) (by kernel_rfl) (fun _ _ _ h => h) (.inl ⟨by kernel_rfl, ?y23⟩) (anyW _) ?_
  case y23 =>
    rintro w' -
    go_simp
    first | done | with_reducible rfl | rfl
  try simp only [Act.put]
  refine wpAnyH_take (i := 11) (v := ?v24) rfl (by kernel_rfl) (by kernel_rfl) (by kernel_rfl) (fun _ _ _ h => h) (.inl ⟨by kernel_rfl, ?y24⟩) (anyW _) ?_
  case y24 =>
    rintro w' -
    go_simp
    first | done | with_reducible rfl | rfl
  try simp only [Act.put]
  refine wpAnyH_take (i := 12) (v := ?v25) rfl (by kernel_rfl) (by kernel_rfl) (by kernel_rfl) (fun _ _ _ h => h) (.inl ⟨by kernel_rfl, ?y25⟩) (anyW _) ?_
  case y25 =>
    rintro w' -
    go_simp
    first | done | with_reducible rfl | rfl
  try simp only [Act.put]
  refine wpAnyH_take (i := 14) (v := ?v26) rfl (by kernel_rfl) (by kernel_rfl) (by kernel_rfl) (fun _ _ _ h => h) (.inl ⟨by kernel_rfl, ?y26⟩) (anyW _) ?_
  case y26 =>
    rintro w' -
    go_simp
    first | done | with_reducible rfl | rfl
  try simp only [Act.put]
  refine wpAnyH_take (i := 15) (v := ?v27) rfl (by kernel_rfl) (by kernel_rfl) (by kernel_rfl) (fun _ _ _ h => h) (.inl ⟨by kernel_rfl, ?y27⟩) (anyW _) ?_
  case y27 =>
    rintro w' -
    go_simp
    first | done | with_reducible rfl | rfl
  try simp only [Act.put]
  refine wpAnyH_take (i := 16) (v := ?v28) rfl (by kernel_rfl) (by kernel_rfl) (by kernel_rfl) (fun _ _ _ h => h) (.inl ⟨by kernel_rfl, ?y28⟩) (anyW _) ?_
  case y28 =>
    rintro w' -
    go_simp
    first | done | with_reducible rfl | rfl
  try simp only [Act.put]
  refine wpAnyH_take (i := 17) (v := ?v29) rfl (by kernel_rfl) (by kernel_rfl) (by kernel_rfl) (fun _ _ _ h => h) (.inl ⟨by kernel_rfl, ?y29⟩) (anyW _) ?_
  case y29 =>
    rintro w' -
    go_simp
    first | done | with_reducible rfl | rfl
  try simp only [Act.put]
  refine wpAnyH_take (i := 18) (v := ?v30) rfl (by kernel_rfl) (by kernel_rfl) (by kernel_rfl) (fun _ _ _ h => h) (.inl ⟨by kernel_rfl, ?y30⟩) (anyW _) ?_
  case y30 =>
    rintro w' -
    go_simp
    first | done | with_reducible rfl | rfl
  try simp only [Act.put]
  refine wpAnyH_take (i := 19) (v := ?v31) rfl (by kernel_rfl) (by kernel_rfl) (by kernel_rfl) (fun _ _ _ h => h) (.inl ⟨by kernel_rfl, ?y31⟩) (anyW _) ?_
  case y31 =>
    rintro w' -
    go_simp
    first | done | with_reducible rfl | rfl
  try simp only [Act.put]
  refine held_one (i := 13) (by kernel_rfl) rfl (by kernel_rfl) ?_
  unfold Oper.wp
  go_simp
  refine (len_any V_x V_y K J c_x c_y (x.take K) (y.take J) w8 HTk.out HTj.out (by omega) (by omega) u1 u2).mono ?_
  rintro e w9 ⟨rfl, hb9⟩
  have bb9 := below_go bb8 hb9
  replace u3 := u3.below hb9
  replace u4 := u4.below hb9
  clear bb8 hb9 u1 u2
  refine ⟨(anyW _), ?_⟩
  try simp only [Act.put]
  refine held_one (i := 20) (by kernel_rfl) rfl (by kernel_rfl) ?_
  unfold Oper.wp
  go_simp
  refine (len_any A1 B1 (na - K) (nb - J) c1 d1 (x.drop K) (y.drop J) w9 HDk.out HDj.out (by omega) (by omega) u3 u4).mono ?_
  rintro e w10 ⟨rfl, hb10⟩
  have bb10 := below_go bb9 hb10
  have m3 := M3.out
  clear bb9 hb10 u3 u4 M3
  generalize lcs (x.take K) (y.take J) = L1 at *
  generalize lcs (x.drop K) (y.drop J) = L2 at *
  generalize lcs x y = L at *
  have q1 : IntKind.i64.wrap ((L1 : Int) + (L2 : Int)) = (L : Int) := by rw [IntWalk.i64_in _ (by omega)]; omega
  refine ⟨(anyW _), ?_⟩
  try simp only [Act.put]
  refine wpAnyH_take (i := 21) (v := ?v32) rfl (by kernel_rfl) (by kernel_rfl) (by kernel_rfl) (fun _ _ _ h => h) (.inl ⟨by kernel_rfl, ?y32⟩) (anyW _) ?_
  case y32 =>
    rintro w' -
    go_simp
    first | done | with_reducible rfl | rfl
  try simp only [Act.put]
  refine wpAnyH_take (i := 22) (v := ?v33) rfl (by kernel_rfl) (by kernel_rfl) (by kernel_rfl) (fun _ _ _ h => h) (.inl ⟨by kernel_rfl, ?y33⟩) (anyW _) ?_
  case y33 =>
    rintro w' -
    go_simp
    first | done | with_reducible rfl | rfl
  try simp only [Act.put]
  refine wpAnyH_take (i := 23) (v := ?v34) rfl (by kernel_rfl) (by kernel_rfl) (by kernel_rfl) (fun _ _ _ h => h) (.inl ⟨by kernel_rfl, ?y34⟩) (anyW _) ?_
  case y34 =>
    rintro w' -
    go_simp
    first | done | with_reducible rfl | rfl
  try simp only [Act.put]
  refine wpAnyH_take (i := 24) (v := ?v35) rfl (by kernel_rfl) (by kernel_rfl) (by kernel_rfl) (fun _ _ _ h => h) (.inl ⟨by kernel_rfl, ?y35⟩) (anyW _) ?_
  case y35 =>
    rintro w' -
    go_simp
    first | done | with_reducible rfl | rfl
  try simp only [Act.put]
  refine held_done (by kernel_rfl) ?_
  go_simp
  go_wp2_with fail
  go_ret
  exact Yes.of bb10

/-! ### The row's step -/
theorem own : ownKnob Try.prog.godebug = none := by kernel_rfl
theorem laidOut : laidOutB Try.prog = true := by kernel_rfl

theorem contract (H : Type) (enc : TypeId × Value → H) (W : World) (base : Nat) (args : Array Value) (ds gs : List (DataW H)) (before : List MemPlace)
    (hval : ∀ (j : Nat) t v, Try.f7.params[j]? = some t → args[j]? = some v → Value.okWide Try.prog W .any base t v)
    (hW : DataW.Whole enc Try.prog Try.f7.params.toList Rows.rowsMeetSpec.vars false W args.toList ds gs before) :
    Calls Try.prog 7 args W fun e W' => ∃ v, e = .returned v ∧ Rows.rowsMeetSpec.post enc Try.prog Try.f7 false true false false W args v W' := by
  have hW' := hW
  obtain ⟨p, q, hA0, hV, rfl, hfz, hnd⟩ := hW
  have hA : DataW.TrodAll enc Try.prog W 0 (fun _ => true) true Try.f7.params.toList args.toList ds p := hA0
  rw [Try.params7] at hA hval
  obtain ⟨v0, vs0, d0, ds0, p0, q0, hargs, rfl, rfl, h0, r0⟩ := trodAll_cons hA
  obtain ⟨v1, vs1, d1, ds1, p1, q1, rfl, rfl, rfl, h1, r1⟩ := trodAll_cons r0
  obtain ⟨v2, vs2, d2, ds2, p2, q2, rfl, rfl, rfl, h2, r2⟩ := trodAll_cons r1
  obtain ⟨rfl, rfl, rfl⟩ := trodAll_nil r2
  obtain rfl : args = #[v0, v1, v2] := by cases args; simp_all
  obtain ⟨rfl, rfl⟩ := trodVars_none hV
  have k0 := h0
  have lt0 : ∀ x ∈ p0, x.block < W.heap.size := by obtain ⟨m, hm⟩ := k0; exact DataW.trod_lt m _ _ _ hm
  obtain ⟨A0, n0, c0, e0⟩ := okWide_slice Try.underlying24 (hval 0 24 v0 rfl rfl)
  subst e0
  obtain ⟨l0, w0⟩ := open_argI Try.underlying24 Try.underlying3 (by kernel_rfl) h0
  have k1 := h1
  have lt1 : ∀ x ∈ p1, x.block < W.heap.size := by obtain ⟨m, hm⟩ := k1; exact DataW.trod_lt m _ _ _ hm
  obtain ⟨A1, n1, c1, e1⟩ := okWide_slice Try.underlying24 (hval 1 24 v1 rfl rfl)
  subst e1
  obtain ⟨l1, w1⟩ := open_argI Try.underlying24 Try.underlying3 (by kernel_rfl) h1
  have k2 := h2
  have lt2 : ∀ x ∈ p2, x.block < W.heap.size := by obtain ⟨m, hm⟩ := k2; exact DataW.trod_lt m _ _ _ hm
  obtain ⟨a2, e2, _, _, w2⟩ := open_int Try.underlying5 (hval 2 5 v2 rfl rfl) h2
  subst e2
  clear hA0
  refine (rowsMeet_walk A0 n0 c0 l0 A1 n1 c1 l1 a2 W w0 w1 w2).mono fun e W' ⟨he, bel⟩ => ?_
  subst he
  exact ⟨_, rfl, _, _, _, [], _, [], hW', trodAll_mk1 (shut_bool Try.underlying4 _), (trodAll_cons_mk (Below.trod laidOut (by kernel_rfl) (of_decide_eq_true (by kernel_rfl)) k0 bel lt0) (trodAll_cons_mk (Below.trod laidOut (by kernel_rfl) (of_decide_eq_true (by kernel_rfl)) k1 bel lt1) (trodAll_cons_mk (Below.trod laidOut (by kernel_rfl) (of_decide_eq_true (by kernel_rfl)) k2 bel lt2) trodAll_mk0))), rfl, bel.frame _, fun h => by cases h⟩

set_option maxRecDepth 100000 in
theorem lifted (os : Os) (started : os.Started) (H : Type) (enc : TypeId × Value → H) :
    ReturnsInHanded {} Try.checked os 7 .any (Rows.rowsMeetSpec.pre6 enc Try.prog Try.f7 Rows.rowsMeetRow.domain false) (Rows.rowsMeetSpec.post enc Try.prog Try.f7 false true false false) := by
  refine returnsInHanded_of_change (C := Try.checked) own started (by kernel_rfl) Try.func7
    (ChangeSpec.witness6 (enc := enc) (C := Try.checked) false ⟨#[], #[.slice none 0 0, .slice none 0 0, .int .u8 0], []⟩ 8 (by kernel_rfl) (by kernel_rfl) (by kernel_rfl) (by kernel_rfl)) ?_
  intro W base args ds gs before hval hW _ _
  exact contract H enc W base args ds gs before hval hW

/-- The statement. -/
theorem proved : Rows.RowsMeetSaid :=
  OpenClaim.holds_of_wide 7 Try.f7 rfl rfl rfl rfl rfl rfl rfl ⟨rfl, rfl, rfl, rfl, rfl⟩ rfl rfl rfl rfl rfl (by kernel_rfl) Try.func7 (by kernel_rfl)
    (of_decide_eq_true (by kernel_rfl)) (by unfold Func.isWrapper; first | (rw [if_pos (by decide +kernel)]; kernel_rfl) | (rw [if_neg (by decide +kernel)]; exact ⟨rfl, rfl⟩))
    (fun os started H enc _ => lifted os started H enc)

end Go.Proofs.Ytikmmbplcjhhiaa.rowsMeetP
