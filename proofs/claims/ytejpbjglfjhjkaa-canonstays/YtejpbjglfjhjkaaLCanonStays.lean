/-
  Proved: for every input tattinglaw23.CanonStays returns true, and its arguments read afterwards as before.
-/
import Derived.Test.YtejpbjglfjhjkaaM24
import Derived.Test.YtejpbjglfjhjkaaM26
import Derived.Test.YtejpbjglfjhjkaaM27
import Derived.Test.YtejpbjglfjhjkaaM3
namespace Go.Proofs.Ytejpbjglfjhjkaa.canonStaysP
open Go.ChangeShapes Go.WideShapes Go.ChangeAt Go.RowKit
open Go.ChangeMaps (open_string shut_string)

set_option maxRecDepth 100000 in
set_option maxHeartbeats 6400000 in
theorem canonStays_walk (Aa : Option Addr) (na ca : Nat) (a : List Int) (Ab : Option Addr) (nb cb : Nat) (b : List Int) (Al : Option Addr) (nl cl : Nat) (l : List Pr) (w : World) (ha : ArgI w Aa na ca a) (hb : ArgI w Ab nb cb b) (hl : ArgP w Al nl cl l) :
    Calls Try.prog 7 #[.slice Aa na ca, .slice Ab nb cb, .slice Al nl cl] w (Yes w) := by
  obtain ⟨hna, hca, hma, r_a, hnila, hwfa⟩ := ha
  have Ha := Lib.hid hna
  have Wa := Lib.hid hwfa
  clear hna hwfa
  unfold maxLen at hma
  obtain ⟨hnb, hcb, hmb, r_b, hnilb, hwfb⟩ := hb
  have Hb := Lib.hid hnb
  have Wb := Lib.hid hwfb
  clear hnb hwfb
  unfold maxLen at hmb
  obtain ⟨hnl, hcl, hml, r_l, hnill, hwfl⟩ := hl
  have Hl := Lib.hid hnl
  have Wl := Lib.hid hwfl
  clear hnl hwfl
  unfold maxLen at hml
  by_cases ga : na ≤ 30
  case neg =>
    go_enter Try.func7, Try.ntmps7
    go_wp2_with fail
    refine (awake23 _).mono ?_
    rintro e w1 ⟨rfl, hb1⟩
    go_wp2_with fail
    go_ret
    exact Yes.of hb1
  by_cases gb : nb ≤ 30
  case neg =>
    go_enter Try.func7, Try.ntmps7
    go_wp2_with fail
    refine (awake23 _).mono ?_
    rintro e w1 ⟨rfl, hb1⟩
    go_wp2_with fail
    go_ret
    exact Yes.of hb1
  by_cases gl : nl ≤ 30
  case neg =>
    go_enter Try.func7, Try.ntmps7
    go_wp2_with fail
    refine (awake23 _).mono ?_
    rintro e w1 ⟨rfl, hb1⟩
    go_wp2_with fail
    go_ret
    exact Yes.of hb1
  go_enter Try.func7, Try.ntmps7
  go_wp2_with fail
  refine (awake23 _).mono ?_
  rintro e w1 ⟨rfl, hb⟩
  have B := below_go (Below.refl _ _) hb
  replace r_a := r_a.below B
  replace r_b := r_b.below B
  replace r_l := r_l.below B
  have bb := B
  clear B hb
  go_wp2_with fail
  refine (few_any _ na _ a 3 _ Ha.out (by omega) (by decide) (by decide) r_a).mono ?_
  rintro e w2 ⟨v, rfl, hv, hb⟩
  have B := below_go (Below.refl _ _) hb
  clear r_a
  replace r_b := r_b.below B
  replace r_l := r_l.below B
  replace bb := below_go bb B
  clear B hb
  have Hx : Hid ((few 3 a).length = na) := by show _ = _; rw [few_length, Ha.out]
  rw [Hx.out] at hv
  obtain ⟨V_x, c_x, rfl, hq_x, hm_x, r_x, hnil_x⟩ := own_slice hv
  clear hv
  generalize few 3 a = x at *
  go_wp2_with fail
  refine (few_any _ nb _ b 3 _ Hb.out (by omega) (by decide) (by decide) r_b).mono ?_
  rintro e w3 ⟨v, rfl, hv, hb⟩
  have B := below_go (Below.refl _ _) hb
  clear r_b
  replace r_l := r_l.below B
  replace r_x := r_x.below B
  replace bb := below_go bb B
  clear B hb
  have Hy : Hid ((few 3 b).length = nb) := by show _ = _; rw [few_length, Hb.out]
  rw [Hy.out] at hv
  obtain ⟨V_y, c_y, rfl, hq_y, hm_y, r_y, hnil_y⟩ := own_slice hv
  clear hv
  generalize few 3 b = y at *
  have RL := Lib.hid (fun w r1 r2 => rleast_any V_x V_y na nb c_x c_y x y w Hx.out Hy.out (by omega) (by omega) r1 r2)
  have hB0 := lst_le x y
  rw [Hx.out] at hB0
  have HG : Hid (goodB x y (lst x y) = true) := best_good x y
  have HE1 := Lib.hid (best_lft x y)
  have HE2 := Lib.hid (best_top x y)
  have HE3 := Lib.hid (best_of x y)
  generalize lst x y = B at *
  obtain ⟨NB, nB⟩ : ∃ N, B.length = N := ⟨_, rfl⟩
  have HB := Lib.hid nB
  rw [nB] at hB0
  clear nB
  go_wp2_with fail
  refine (RL.out _ r_x r_y).mono ?_
  rintro e w4 ⟨v, rfl, hv, hb⟩
  rw [HB.out] at hv
  obtain ⟨V_best, c_best, rfl, _, _, r_best, _⟩ := own_sliceS hv
  clear hv RL
  have B := below_go (Below.refl _ _) hb
  replace r_l := r_l.below B
  replace r_x := r_x.below B
  replace r_y := r_y.below B
  replace bb := below_go bb B
  clear B hb
  go_wp2_with fail
  refine (pleft_w _ _ _ na nb NB _ _ _ x y B B 0 _ (HE1.out) Hx.out Hy.out HB.out (by omega) (by omega) (by omega)  r_x r_y r_best).mono ?_
  rintro e w5 ⟨v, rfl, hv, hb⟩
  rw [HB.out] at hv
  obtain ⟨V_p, c_p, rfl, _, _, r_p, _⟩ := own_sliceS hv
  clear hv
  have B := below_go (Below.refl _ _) hb
  replace r_l := r_l.below B
  replace r_x := r_x.below B
  replace r_y := r_y.below B
  replace r_best := r_best.below B
  replace bb := below_go bb B
  clear B hb
  go_wp2_with fail
  refine (ptop_w _ _ _ na nb NB _ _ _ x y B B 0 _ (HE2.out) Hx.out Hy.out HB.out (by omega) (by omega) (by omega)  r_x r_y r_best).mono ?_
  rintro e w6 ⟨v, rfl, hv, hb⟩
  rw [HB.out] at hv
  obtain ⟨V_q, c_q, rfl, _, _, r_q, _⟩ := own_sliceS hv
  clear hv
  have B := below_go (Below.refl _ _) hb
  replace r_l := r_l.below B
  replace r_x := r_x.below B
  replace r_y := r_y.below B
  replace r_best := r_best.below B
  replace r_p := r_p.below B
  replace bb := below_go bb B
  clear B hb
  go_wp2_with fail
  refine (pof_w _ _ _ na nb NB _ _ _ x y B B 0 _ (HE3.out) Hx.out Hy.out HB.out (by omega) (by omega) (by omega) hq_x hq_y r_x r_y r_best).mono ?_
  rintro e w7 ⟨v, rfl, hv, hb⟩
  rw [HB.out] at hv
  obtain ⟨V_r, c_r, rfl, _, _, r_r, _⟩ := own_sliceS hv
  clear hv
  have B := below_go (Below.refl _ _) hb
  replace r_l := r_l.below B
  replace r_x := r_x.below B
  replace r_y := r_y.below B
  replace r_best := r_best.below B
  replace r_p := r_p.below B
  replace r_q := r_q.below B
  replace bb := below_go bb B
  clear B hb
  go_wp2_with fail
  refine (samePairs_any _ _ NB NB _ _ B B _ HB.out HB.out (by omega) r_p r_best).mono ?_
  rintro e w8 ⟨rfl, q, hq⟩
  have hb := below_of hq
  clear hq
  have B := below_go (Below.refl _ _) hb
  replace r_l := r_l.below B
  replace r_x := r_x.below B
  replace r_y := r_y.below B
  replace r_best := r_best.below B
  clear r_p
  replace r_q := r_q.below B
  replace r_r := r_r.below B
  replace bb := below_go bb B
  clear B hb
  rw [show decide (B = B) = true by simp]
  go_wp2_with fail
  refine (samePairs_any _ _ NB NB _ _ B B _ HB.out HB.out (by omega) r_q r_best).mono ?_
  rintro e w9 ⟨rfl, q, hq⟩
  have hb := below_of hq
  clear hq
  have B := below_go (Below.refl _ _) hb
  replace r_l := r_l.below B
  replace r_x := r_x.below B
  replace r_y := r_y.below B
  replace r_best := r_best.below B
  clear r_q
  replace r_r := r_r.below B
  replace bb := below_go bb B
  clear B hb
  rw [show decide (B = B) = true by simp]
  go_wp2_with fail
  refine (samePairs_any _ _ NB NB _ _ B B _ HB.out HB.out (by omega) r_r r_best).mono ?_
  rintro e w10 ⟨rfl, q, hq⟩
  have hb := below_of hq
  clear hq
  have B := below_go (Below.refl _ _) hb
  replace r_l := r_l.below B
  replace r_x := r_x.below B
  replace r_y := r_y.below B
  clear r_best
  clear r_r
  replace bb := below_go bb B
  clear B hb
  rw [show decide (B = B) = true by simp]
  by_cases hg : goodB x y l = true
  · have HGl := Lib.hid hg
    obtain ⟨M, S, e1, e2, e3, e4, e5, e6, e7, e8, e9⟩ := stays_good hg
    rw [Hl.out] at e3 e8
    have E1 := Lib.hid e1
    have E2 := Lib.hid e2
    have E3 := Lib.hid e3
    have E4 := Lib.hid e4
    have E5 := Lib.hid e5
    have E6 := Lib.hid e6
    have E7 := Lib.hid e7
    have E8 := Lib.hid e8
    have E9 := Lib.hid e9
    clear hg e1 e2 e3 e4 e5 e6 e7 e8 e9
    go_wp2_with fail
    refine (pleft_w _ _ _ na nb nl _ _ _ x y l M 0 _ (E1.out) Hx.out Hy.out Hl.out (by omega) (by omega) (by omega)  r_x r_y r_l).mono ?_
    rintro e w11 ⟨v, rfl, hv, hb⟩
    rw [E3.out] at hv
    obtain ⟨V_m, c_m, rfl, _, _, r_m, _⟩ := own_sliceS hv
    clear hv
    have B := below_go (Below.refl _ _) hb
    replace r_l := r_l.below B
    replace r_x := r_x.below B
    replace r_y := r_y.below B
    replace bb := below_go bb B
    clear B hb
    go_wp2_with fail
    refine (ptop_w _ _ _ na nb nl _ _ _ x y M S 0 _ (E6.out) Hx.out Hy.out E3.out (by omega) (by omega) (by omega)  r_x r_y r_m).mono ?_
    rintro e w12 ⟨v, rfl, hv, hb⟩
    rw [E8.out] at hv
    obtain ⟨V_n, c_n, rfl, _, _, r_n, _⟩ := own_sliceS hv
    clear hv
    have B := below_go (Below.refl _ _) hb
    replace r_l := r_l.below B
    replace r_x := r_x.below B
    replace r_y := r_y.below B
    replace r_m := r_m.below B
    replace bb := below_go bb B
    clear B hb
    go_wp2_with fail
    refine (good_any _ _ _ na nb nl _ _ _ x y l _ Hx.out Hy.out Hl.out (by omega) r_x r_y r_l).mono ?_
    rintro e w13 ⟨rfl, hb⟩
    have B := below_go (Below.refl _ _) hb
    replace r_l := r_l.below B
    replace r_x := r_x.below B
    replace r_y := r_y.below B
    replace r_m := r_m.below B
    replace r_n := r_n.below B
    replace bb := below_go bb B
    clear B hb
    rw [HGl.out]
    go_wp2_with fail
    refine (pleft_w _ _ _ na nb nl _ _ _ x y M M 0 _ (E5.out) Hx.out Hy.out E3.out (by omega) (by omega) (by omega)  r_x r_y r_m).mono ?_
    rintro e w14 ⟨v, rfl, hv, hb⟩
    rw [E3.out] at hv
    obtain ⟨V_again, c_again, rfl, _, _, r_again, _⟩ := own_sliceS hv
    clear hv
    have B := below_go (Below.refl _ _) hb
    replace r_l := r_l.below B
    replace r_x := r_x.below B
    replace r_y := r_y.below B
    replace r_m := r_m.below B
    replace r_n := r_n.below B
    replace bb := below_go bb B
    clear B hb
    go_wp2_with fail
    refine (samePairs_any _ _ nl nl _ _ M M _ E3.out E3.out (by omega) r_again r_m).mono ?_
    rintro e w15 ⟨rfl, q, hq⟩
    have hb := below_of hq
    clear hq
    have B := below_go (Below.refl _ _) hb
    replace r_l := r_l.below B
    replace r_x := r_x.below B
    replace r_y := r_y.below B
    replace r_m := r_m.below B
    replace r_n := r_n.below B
    clear r_again
    replace bb := below_go bb B
    clear B hb
    rw [show decide (M = M) = true by simp]
    go_wp2_with fail
    refine (good_any _ _ _ na nb nl _ _ _ x y M _ Hx.out Hy.out E3.out (by omega) r_x r_y r_m).mono ?_
    rintro e w16 ⟨rfl, hb⟩
    have B := below_go (Below.refl _ _) hb
    replace r_l := r_l.below B
    replace r_x := r_x.below B
    replace r_y := r_y.below B
    replace r_m := r_m.below B
    replace r_n := r_n.below B
    replace bb := below_go bb B
    clear B hb
    rw [E2.out]
    go_wp2_with fail
    refine (good_any _ _ _ na nb nl _ _ _ x y S _ Hx.out Hy.out E8.out (by omega) r_x r_y r_n).mono ?_
    rintro e w17 ⟨rfl, hb⟩
    have B := below_go (Below.refl _ _) hb
    replace r_l := r_l.below B
    clear r_x
    clear r_y
    replace r_m := r_m.below B
    replace r_n := r_n.below B
    replace bb := below_go bb B
    clear B hb
    rw [E7.out]
    go_wp2_with fail
    refine (refLess _ _ _ _ _ _ l M _ Hl.out E3.out (by omega) (by omega) r_l r_m).mono ?_
    rintro e w18 ⟨rfl, q, hq⟩
    have hb := below_of hq
    clear hq
    have B := below_go (Below.refl _ _) hb
    clear r_l
    replace r_m := r_m.below B
    replace r_n := r_n.below B
    replace bb := below_go bb B
    clear B hb
    rw [E4.out]
    go_wp2_with fail
    refine (refLess _ _ _ _ _ _ M S _ E3.out E8.out (by omega) (by omega) r_m r_n).mono ?_
    rintro e w19 ⟨rfl, q, hq⟩
    have hb := below_of hq
    clear hq
    have B := below_go (Below.refl _ _) hb
    clear r_m
    clear r_n
    replace bb := below_go bb B
    clear B hb
    rw [E9.out]
    go_wp2_with fail
    go_ret
    exact Yes.of bb
  · rw [Bool.not_eq_true] at hg
    have HGl := Lib.hid hg
    obtain ⟨e1, e2⟩ := stays_bad hg
    have E1 := Lib.hid e1
    have E2 := Lib.hid e2
    clear hg e1 e2
    go_wp2_with fail
    refine (pleft_w _ _ _ na nb nl _ _ _ x y l [] 1 _ (E1.out) Hx.out Hy.out Hl.out (by omega) (by omega) (by omega)  r_x r_y r_l).mono ?_
    rintro e w11 ⟨v, rfl, hv, hb⟩
    obtain ⟨V_m, c_m, rfl, _, _, r_m, _⟩ := own_sliceS hv
    clear hv
    have B := below_go (Below.refl _ _) hb
    replace r_l := r_l.below B
    replace r_x := r_x.below B
    replace r_y := r_y.below B
    replace bb := below_go bb B
    clear B hb
    go_wp2_with fail
    refine (ptop_w _ _ _ na nb 0 _ _ _ x y [] [] 0 _ (E2.out) Hx.out Hy.out rfl (by omega) (by omega) (by omega)  r_x r_y r_m).mono ?_
    rintro e w12 ⟨v, rfl, hv, hb⟩
    obtain ⟨V_n, c_n, rfl, _, _, r_n, _⟩ := own_sliceS hv
    clear hv
    have B := below_go (Below.refl _ _) hb
    replace r_l := r_l.below B
    replace r_x := r_x.below B
    replace r_y := r_y.below B
    clear r_m
    replace bb := below_go bb B
    clear B hb
    clear r_n
    go_wp2_with fail
    refine (good_any _ _ _ na nb nl _ _ _ x y l _ Hx.out Hy.out Hl.out (by omega) r_x r_y r_l).mono ?_
    rintro e w13 ⟨rfl, hb⟩
    have B := below_go (Below.refl _ _) hb
    clear r_l
    clear r_x
    clear r_y
    replace bb := below_go bb B
    clear B hb
    rw [HGl.out]
    go_wp2_with fail
    go_ret
    exact Yes.of bb

/-! ### The row's step -/
theorem own : ownKnob Try.prog.godebug = none := by kernel_rfl
theorem laidOut : laidOutB Try.prog = true := by kernel_rfl

set_option maxRecDepth 100000 in
theorem contract (H : Type) (enc : TypeId × Value → H) (W : World) (base : Nat) (args : Array Value) (ds gs : List (DataW H)) (before : List MemPlace)
    (hval : ∀ (j : Nat) t v, Try.f7.params[j]? = some t → args[j]? = some v → Value.okWide Try.prog W .any base t v)
    (hW : DataW.Whole enc Try.prog Try.f7.params.toList Rows.canonStaysSpec.vars false W args.toList ds gs before) :
    Calls Try.prog 7 args W fun e W' => ∃ v, e = .returned v ∧ Rows.canonStaysSpec.post enc Try.prog Try.f7 false true false false W args v W' := by
  have hW' := hW
  obtain ⟨p, q, hA0, hV, rfl, hfz, hnd⟩ := hW
  have hA : DataW.TrodAll enc Try.prog W 0 (fun _ => true) true Try.f7.params.toList args.toList ds p := hA0
  rw [Try.params7] at hA hval
  obtain ⟨v0, vs0, d0, ds0, p0, q0, hargs, rfl, rfl, h0, r0⟩ := trodAll_cons hA
  obtain ⟨v1, vs1, d1, ds1, p1, q1, rfl, rfl, rfl, h1, r1⟩ := trodAll_cons r0
  obtain ⟨v2, vs2, d2, ds2, p2, q2, rfl, rfl, rfl, h2, r2⟩ := trodAll_cons r1
  obtain ⟨rfl, rfl, rfl⟩ := trodAll_nil r2
  obtain rfl : args = #[v0, v1, v2] := by cases args; simp_all
  obtain ⟨rfl, rfl⟩ := trodVars_none hV
  have k0 := h0
  have lt0 : ∀ x ∈ p0, x.block < W.heap.size := by obtain ⟨m, hm⟩ := k0; exact DataW.trod_lt m _ _ _ hm
  obtain ⟨A0, n0, c0, e0⟩ := okWide_slice Try.underlying26 (hval 0 26 v0 rfl rfl)
  subst e0
  obtain ⟨l0, w0⟩ := open_argI Try.underlying26 Try.underlying3 (by kernel_rfl) h0
  have k1 := h1
  have lt1 : ∀ x ∈ p1, x.block < W.heap.size := by obtain ⟨m, hm⟩ := k1; exact DataW.trod_lt m _ _ _ hm
  obtain ⟨A1, n1, c1, e1⟩ := okWide_slice Try.underlying26 (hval 1 26 v1 rfl rfl)
  subst e1
  obtain ⟨l1, w1⟩ := open_argI Try.underlying26 Try.underlying3 (by kernel_rfl) h1
  have k2 := h2
  have lt2 : ∀ x ∈ p2, x.block < W.heap.size := by obtain ⟨m, hm⟩ := k2; exact DataW.trod_lt m _ _ _ hm
  obtain ⟨A2, n2, c2, e2⟩ := okWide_slice Try.underlying22 (hval 2 22 v2 rfl rfl)
  subst e2
  obtain ⟨l2, w2⟩ := open_argP Try.underlying22 Try.underlying28 (by kernel_rfl) rfl rfl (by kernel_rfl) (by kernel_rfl) Try.underlying3 Try.underlying3 h2
  clear hA0
  refine (canonStays_walk A0 n0 c0 l0 A1 n1 c1 l1 A2 n2 c2 l2 W w0 w1 w2).mono fun e W' ⟨he, bel⟩ => ?_
  subst he
  exact ⟨_, rfl, _, _, _, [], _, [], hW', trodAll_mk1 (shut_bool Try.underlying4 _), (trodAll_cons_mk (Below.trod laidOut (by kernel_rfl) (of_decide_eq_true (by kernel_rfl)) k0 bel lt0) (trodAll_cons_mk (Below.trod laidOut (by kernel_rfl) (of_decide_eq_true (by kernel_rfl)) k1 bel lt1) (trodAll_cons_mk (Below.trod laidOut (by kernel_rfl) (of_decide_eq_true (by kernel_rfl)) k2 bel lt2) trodAll_mk0))), rfl, bel.frame _, fun h => by cases h⟩

set_option maxRecDepth 100000 in
theorem lifted (os : Os) (started : os.Started) (H : Type) (enc : TypeId × Value → H) :
    ReturnsInHanded {} Try.checked os 7 .any (Rows.canonStaysSpec.pre6 enc Try.prog Try.f7 Rows.canonStaysRow.domain false) (Rows.canonStaysSpec.post enc Try.prog Try.f7 false true false false) := by
  refine returnsInHanded_of_change (C := Try.checked) own started (by kernel_rfl) Try.func7
    (ChangeSpec.witness6 (enc := enc) (C := Try.checked) false ⟨#[], #[.slice none 0 0, .slice none 0 0, .slice none 0 0], []⟩ 8 (by kernel_rfl) (by kernel_rfl) (by kernel_rfl) (by kernel_rfl)) ?_
  intro W base args ds gs before hval hW _ _
  exact contract H enc W base args ds gs before hval hW

/-- The statement. -/
theorem proved : Rows.CanonStaysSaid :=
  OpenClaim.holds_of_wide 7 Try.f7 rfl rfl rfl rfl rfl rfl rfl ⟨rfl, rfl, rfl, rfl, rfl⟩ rfl rfl rfl rfl rfl (by kernel_rfl) Try.func7 (by kernel_rfl)
    (of_decide_eq_true (by kernel_rfl)) (by unfold Func.isWrapper; first | (rw [if_pos (by decide +kernel)]; kernel_rfl) | (rw [if_neg (by decide +kernel)]; exact ⟨rfl, rfl⟩))
    (fun os started H enc _ => lifted os started H enc)

end Go.Proofs.Ytejpbjglfjhjkaa.canonStaysP
