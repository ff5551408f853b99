/-
  Proved: for every input tattinglaw9.LeastRest returns true, and its arguments read afterwards as before.
-/
import Derived.Test.YtobijkjonnoeiaaAwake9
import Derived.Test.YtobijkjonnoeiaaArgsI
import Derived.Test.YtobijkjonnoeiaaArgsP
import Derived.Test.YtobijkjonnoeiaaFew
import Derived.Test.YtobijkjonnoeiaaRnd
import Derived.BigQuiet
namespace Go.Proofs.Ytobijkjonnoeiaa.leastRestP
open Go.ChangeShapes Go.WideShapes Go.ChangeAt Go.RowKit
open Go.ChangeMaps (open_string shut_string)

set_option maxRecDepth 100000 in
set_option maxHeartbeats 3200000 in
theorem leastRest_walk (Aa : Option Addr) (na ca : Nat) (a : List Int) (Ab : Option Addr) (nb cb : Nat) (b : List Int) (at0 : Int) (w : World) (ha : ArgI w Aa na ca a) (hb : ArgI w Ab nb cb b) (hat0 : (Lit.int .u8 at0).wf = true) :
    Calls Try.prog 7 #[.slice Aa na ca, .slice Ab nb cb, .int .u8 at0] w (Yes w) := by
  obtain ⟨hna, hca, hma, r_a, hnila, hwfa⟩ := ha
  have Ha := Lib.hid hna
  have Wa := Lib.hid hwfa
  clear hna hwfa
  unfold maxLen at hma
  obtain ⟨hnb, hcb, hmb, r_b, hnilb, hwfb⟩ := hb
  have Hb := Lib.hid hnb
  have Wb := Lib.hid hwfb
  clear hnb hwfb
  unfold maxLen at hmb
  by_cases ga : na ≤ 30
  case neg =>
    go_enter Try.func7, Try.ntmps7
    go_wp2_with fail
    refine (awake9 _).mono ?_
    rintro e w1 ⟨rfl, hb1⟩
    go_wp2_with fail
    go_ret
    exact Yes.of hb1
  by_cases gb : nb ≤ 30
  case neg =>
    go_enter Try.func7, Try.ntmps7
    go_wp2_with fail
    refine (awake9 _).mono ?_
    rintro e w1 ⟨rfl, hb1⟩
    go_wp2_with fail
    go_ret
    exact Yes.of hb1
  have B8 := bounds_u8 hat0
  clear hat0
  go_enter Try.func7, Try.ntmps7
  go_wp2_with fail
  refine (awake9 _).mono ?_
  rintro e w1 ⟨rfl, hb⟩
  have B := below_go (Below.refl _ _) hb
  replace r_a := r_a.below B
  replace r_b := r_b.below B
  have bb := B
  clear B hb
  go_wp2_with fail
  refine (few_any _ na _ a 3 _ Ha.out (by omega) (by decide) (by decide) r_a).mono ?_
  rintro e w2 ⟨v, rfl, hv, hb⟩
  have B := below_go (Below.refl _ _) hb
  replace r_a := r_a.below B
  replace r_b := r_b.below B
  replace bb := below_go bb B
  clear B hb
  have Hx : Hid ((few 3 a).length = na) := by show _ = _; rw [few_length, Ha.out]
  rw [Hx.out] at hv
  obtain ⟨V_x, c_x, rfl, hq_x, hm_x, r_x, hnil_x⟩ := own_slice hv
  clear hv
  generalize few 3 a = x at *
  clear r_a
  go_wp2_with fail
  refine (few_any _ nb _ b 3 _ Hb.out (by omega) (by decide) (by decide) r_b).mono ?_
  rintro e w3 ⟨v, rfl, hv, hb⟩
  have B := below_go (Below.refl _ _) hb
  replace r_b := r_b.below B
  replace r_x := r_x.below B
  replace bb := below_go bb B
  clear B hb
  have Hy : Hid ((few 3 b).length = nb) := by show _ = _; rw [few_length, Hb.out]
  rw [Hy.out] at hv
  obtain ⟨V_y, c_y, rfl, hq_y, hm_y, r_y, hnil_y⟩ := own_slice hv
  clear hv
  generalize few 3 b = y at *
  clear r_b
  have hM := lst_le x y
  rw [Hx.out] at hM
  obtain ⟨N, hN⟩ : ∃ N, (lst x y).length = N := ⟨_, rfl⟩
  have HN := Lib.hid hN
  rw [hN] at hM
  clear hN
  go_wp2_with fail
  refine (lof_any _ _ na nb _ _ x y _ Hx.out Hy.out (by omega) (by omega) hq_x hq_y r_x r_y).mono ?_
  rintro e w4 ⟨v, rfl, hv, hb⟩
  have B := below_go (Below.refl _ _) hb
  replace r_x := r_x.below B
  replace r_y := r_y.below B
  replace bb := below_go bb B
  clear B hb
  obtain ⟨V_l, c_l, rfl, hq_l, _, r_l, _⟩ := own_sliceS hv
  clear hv
  rw [HN.out] at hq_l ⊢
  by_cases hN0 : N = 0
  · subst hN0
    have HZ : Hid (lcs x y = 0) := by show _ = _; rw [← lst_length]; exact HN.out
    go_wp2_with fail
    refine (len_any _ _ na nb _ _ x y _ Hx.out Hy.out (by omega) (by omega) r_x r_y).mono ?_
    rintro e w5 ⟨rfl, hb⟩
    have B := below_go (Below.refl _ _) hb
    replace r_x := r_x.below B
    replace r_y := r_y.below B
    replace r_l := r_l.below B
    replace bb := below_go bb B
    clear B hb
    rw [HZ.out]
    go_wp2_with fail
    go_ret
    exact Yes.of bb
  · obtain ⟨K, hK, hK1, hK2⟩ : ∃ K : Nat, K < N ∧ at0 % (N : Int) = (K : Int) ∧ at0.tmod (N : Int) = (K : Int) := by
      have h1 := Int.emod_nonneg at0 (show (N : Int) ≠ 0 by omega)
      have h2 := Int.emod_lt_of_pos at0 (show (0 : Int) < (N : Int) by omega)
      exact ⟨(at0 % (N : Int)).toNat, by omega, by omega, by rw [Int.tmod_eq_emod_of_nonneg B8.1]; omega⟩
    obtain ⟨g, o, rfl, k1, k2⟩ := r_l.pair (k := K) (by rw [HN.out]; exact hK)
    obtain ⟨X, Y, eXY, hX, hY, hRest⟩ := lst_rest (k := K) (a := x) (b := y) (List.getElem?_eq_getElem (by rw [HN.out]; exact hK))
    rw [eXY] at k1 k2
    rw [Hx.out] at hX
    rw [Hy.out] at hY
    simp only at k1 k2
    have HRest := Lib.hid hRest
    clear eXY hRest
    obtain ⟨A1, c1, s1, s2, s3⟩ := slice_from V_x na c_x (X + 1) x w4 r_x Hx.out hq_x (by omega)
    obtain ⟨B1, d1, s4, s5, s6⟩ := slice_from V_y nb c_y (Y + 1) y w4 r_y Hy.out hq_y (by omega)
    obtain ⟨C1, e1, s7, s8⟩ := slice_fromP (some ⟨g, o, none⟩) N c_l (K + 1) (lst x y) HN.out hq_l (by omega)
    have r8 := s8 w4 r_l
    have hw1 : IntKind.i64.wrap ((X : Int) + 1) = ((X + 1 : Nat) : Int) := by rw [IntWalk.i64_in _ (by omega)]; rfl
    have hw2 : IntKind.i64.wrap ((Y : Int) + 1) = ((Y + 1 : Nat) : Int) := by rw [IntWalk.i64_in _ (by omega)]; rfl
    have hw3 : IntKind.i64.wrap ((K : Int) + 1) = ((K + 1 : Nat) : Int) := by rw [IntWalk.i64_in _ (by omega)]; rfl
    have hw4 : IntKind.i64.wrap at0 = at0 := IntWalk.i64_in _ (by omega)
    have t1 : ((N : Int) == 0) = false := by simp; omega
    have t2 : (N == 0) = false := by simp; omega
    have hmx : Try.prog.follows .mixedOrders = true := by kernel_rfl
    clear s8
    simp only [Int.natCast_add, Int.natCast_one] at s1 s4 s7 hw1 hw2 hw3
    have u1 : decide ((X : Int) + 1 < 1) = false := by simp; omega
    have u2 : decide ((Y : Int) + 1 < 1) = false := by simp; omega
    have u3 : decide ((na : Int) < (X : Int) + 1) = false := by simp; omega
    have u4 : decide ((nb : Int) < (Y : Int) + 1) = false := by simp; omega
    go_wp2_with fail
    go_quiet (fail)
    have BQ : Below w4.heap.size w4 (w4.drewN nq) := below_drewN (Below.refl _ _) nq
    replace s3 := s3.below BQ
    replace s6 := s6.below BQ
    replace r8 := r8.below BQ
    replace bb := below_go bb BQ
    clear BQ r_x r_y r_l k1 k2 hK1 hK2 hw1 hw2 hw4
    generalize w4.drewN nq = wz at *
    go_wp2_with fail
    refine wp_region_held (S := AnyW) hmx ?_
    refine wpAnyH_take (i := 0) (v := ?v61) rfl (by kernel_rfl) (by kernel_rfl) (by kernel_rfl) (fun _ _ _ h => h) (.inl ⟨by kernel_rfl, ?y61⟩) (anyW _) ?_
    case y61 =>
      rintro w' -
      go_simp
      first | done | with_reducible rfl | rfl
    try simp only [Act.put]
    refine wpAnyH_take (i := 1) (v := ?v62) rfl (by kernel_rfl) (by kernel_rfl) (by kernel_rfl) (fun _ _ _ h => h) (.inl ⟨by kernel_rfl, ?y62⟩) (anyW _) ?_
    case y62 =>
      rintro w' -
      go_simp
      first | done | with_reducible rfl | rfl
    try simp only [Act.put]
    refine wpAnyH_take (i := 2) (v := ?v63) rfl (by kernel_rfl) (by kernel_rfl) (by kernel_rfl) (fun _ _ _ h => h) (.inl ⟨by kernel_rfl, ?y63⟩) (anyW _) ?_
    case y63 =>
      rintro w' -
      go_simp
      first | done | with_reducible rfl | rfl
    try simp only [Act.put]
    refine wpAnyH_take (i := 3) (v := ?v64) rfl (by kernel_rfl) (by kernel_rfl) (by kernel_rfl) (fun _ _ _ h => h) (.inl ⟨by kernel_rfl, ?y64⟩) (anyW _) ?_
    case y64 =>
      rintro w' -
      go_simp
      first | done | with_reducible rfl | rfl
    try simp only [Act.put]
    refine wpAnyH_take (i := 4) (v := ?v65) rfl (by kernel_rfl) (by kernel_rfl) (by kernel_rfl) (fun _ _ _ h => h) (.inl ⟨by kernel_rfl, ?y65⟩) (anyW _) ?_
    case y65 =>
      rintro w' -
      go_simp
      first | done | with_reducible rfl | rfl
    try simp only [Act.put]
    refine wpAnyH_take (i := 5) (v := ?v66) rfl (by kernel_rfl) (by kernel_rfl) (by kernel_rfl) (fun _ _ _ h => h) (.inl ⟨by kernel_rfl, ?y66⟩) (anyW _) ?_
    case y66 =>
      rintro w' -
      go_simp
      first | done | with_reducible rfl | rfl
    try simp only [Act.put]
    refine wpAnyH_take (i := 6) (v := ?v67) rfl (by kernel_rfl) (by kernel_rfl) (by kernel_rfl) (fun _ _ _ h => h) (.inl ⟨by kernel_rfl, ?y67⟩) (anyW _) ?_
    case y67 =>
      rintro w' -
      go_simp
      first | done | with_reducible rfl | rfl
    try simp only [Act.put]
    refine wpAnyH_take (i := 7) (v := ?v68) rfl (by kernel_rfl) (by kernel_rfl) (by kernel_rfl) (fun _ _ _ h => h) (.inl ⟨by kernel_rfl, ?y68⟩) (anyW _) ?_
    case y68 =>
      rintro w' -
      go_simp
      first | done | with_reducible rfl | rfl
    try simp only [Act.put]
    refine wpAnyH_take (i := 8) (v := ?v69) rfl (by kernel_rfl) (by kernel_rfl) (by kernel_rfl) (fun _ _ _ h => h) (.inl ⟨by kernel_rfl, ?y69⟩) (anyW _) ?_
    case y69 =>
      rintro w' -
      go_simp
      first | done | with_reducible rfl | rfl
    try simp only [Act.put]
    refine wpAnyH_take (i := 9) (v := ?v70) rfl (by kernel_rfl) (by kernel_rfl) (by kernel_rfl) (fun _ _ _ h => h) (.inl ⟨by kernel_rfl, ?y70⟩) (anyW _) ?_
    case y70 =>
      rintro w' -
      go_simp
      first | done | with_reducible rfl | rfl
    try simp only [Act.put]
    refine wpAnyH_take (i := 11) (v := ?v71) rfl (by kernel_rfl) (by kernel_rfl) (by kernel_rfl) (fun _ _ _ h => h) (.inl ⟨by kernel_rfl, ?y71⟩) (anyW _) ?_
    case y71 =>
      rintro w' -
      go_simp
      first | done | with_reducible rfl | rfl
    try simp only [Act.put]
    refine wpAnyH_take (i := 12) (v := ?v72) rfl (by kernel_rfl) (by kernel_rfl) (by kernel_rfl) (fun _ _ _ h => h) (.inl ⟨by kernel_rfl, ?y72⟩) (anyW _) ?_
    case y72 =>
      rintro w' -
      go_simp
      first | done | with_reducible rfl | rfl
    try simp only [Act.put]
    refine held_one (i := 10) (by kernel_rfl) rfl (by rfl) ?_
    unfold Oper.wp
    go_simp
    refine (lof_any A1 B1 (na - (X + 1)) (nb - (Y + 1)) c1 d1 (x.drop (X + 1)) (y.drop (Y + 1)) wz.drew (by rw [List.length_drop, Hx.out]) (by rw [List.length_drop, Hy.out]) (by omega) (by omega) s2 s5 s3 s6).mono ?_
    rintro e w5 ⟨v, rfl, hv, hb5⟩
    obtain ⟨V4, c4, rfl, _, _, r4, _⟩ := own_sliceS hv
    have r9 := Row.below (w := wz.drew) r8 hb5
    have bb5 := Lib.hid (below_go bb.drew hb5)
    have hL := lst_le (x.drop (X + 1)) (y.drop (Y + 1))
    rw [List.length_drop, Hx.out] at hL
    have HE : Hid ((lst x y).drop (K + 1) = moveP (lst (x.drop (X + 1)) (y.drop (Y + 1))) ((X + 1 : Nat) : Int) ((Y + 1 : Nat) : Int)) := by
      show _ = _
      rw [HRest.out, move_sh (by rw [List.length_drop, Hx.out]; omega) (by rw [List.length_drop, Hy.out]; omega)]
    have HD : Hid (((lst x y).drop (K + 1)).length = N - (K + 1)) := by show _ = _; rw [List.length_drop, HN.out]
    simp only [Int.natCast_add, Int.natCast_one] at HE
    rw [HE.out] at r9 HD
    clear hb5 hv s3 s6 s2 s5 r8 HE HRest
    generalize lst (x.drop (X + 1)) (y.drop (Y + 1)) = m at *
    obtain ⟨M, hMl⟩ : ∃ M, m.length = M := ⟨_, rfl⟩
    have HMl := Lib.hid hMl
    rw [hMl] at hL ⊢
    clear hMl
    refine ⟨(anyW _), ?_⟩
    try simp only [Act.put]
    refine held_one (i := 13) (by kernel_rfl) rfl (by rfl) ?_
    unfold Oper.wp
    go_simp
    refine (refMove V4 M c4 m ((X : Int) + 1) ((Y : Int) + 1) w5 HMl.out (by omega) r4).mono ?_
    rintro e w6 ⟨v, rfl, hv, hb6⟩
    obtain ⟨V6, c6, rfl, _, _, r6, _⟩ := own_sliceS hv
    have r10 := r9.below hb6
    have bb6 := Lib.hid (below_go bb5.out hb6)
    rw [HD.out]
    clear hb6 hv bb5 r9 r4
    refine ⟨(anyW _), ?_⟩
    try simp only [Act.put]
    refine held_one (i := 14) (by kernel_rfl) rfl (by rfl) ?_
    unfold Oper.wp
    go_simp
    refine (samePairs_any C1 V6 (N - (K + 1)) (N - (K + 1)) e1 c6 _ _ w6 HD.out HD.out (by omega) r10 r6).mono ?_
    rintro e w7 ⟨rfl, q, hq⟩
    rw [show decide (moveP m ((X : Int) + 1) ((Y : Int) + 1) = moveP m ((X : Int) + 1) ((Y : Int) + 1)) = true by simp]
    have bb7 := Lib.hid (below_drawn hq bb6.out)
    clear hq bb6 r10 r6
    refine ⟨(anyW _), ?_⟩
    try simp only [Act.put]
    refine wpAnyH_take (i := 15) (v := ?v73) rfl (by kernel_rfl) (by kernel_rfl) (by kernel_rfl) (fun _ _ _ h => h) (.inl ⟨by kernel_rfl, ?y73⟩) (anyW _) ?_
    case y73 =>
      rintro w' -
      go_simp
      first | done | with_reducible rfl | rfl
    try simp only [Act.put]
    refine held_done (by kernel_rfl) ?_
    go_simp
    go_wp2_with fail
    go_ret
    exact Yes.of bb7.out

/-! ### The row's step -/
theorem own : ownKnob Try.prog.godebug = none := by kernel_rfl
theorem laidOut : laidOutB Try.prog = true := by kernel_rfl

theorem contract (H : Type) (enc : TypeId × Value → H) (W : World) (base : Nat) (args : Array Value) (ds gs : List (DataW H)) (before : List MemPlace)
    (hval : ∀ (j : Nat) t v, Try.f7.params[j]? = some t → args[j]? = some v → Value.okWide Try.prog W .any base t v)
    (hW : DataW.Whole enc Try.prog Try.f7.params.toList Rows.leastRestSpec.vars false W args.toList ds gs before) :
    Calls Try.prog 7 args W fun e W' => ∃ v, e = .returned v ∧ Rows.leastRestSpec.post enc Try.prog Try.f7 false true false false W args v W' := by
  have hW' := hW
  obtain ⟨p, q, hA0, hV, rfl, hfz, hnd⟩ := hW
  have hA : DataW.TrodAll enc Try.prog W 0 (fun _ => true) true Try.f7.params.toList args.toList ds p := hA0
  rw [Try.params7] at hA hval
  obtain ⟨v0, vs0, d0, ds0, p0, q0, hargs, rfl, rfl, h0, r0⟩ := trodAll_cons hA
  obtain ⟨v1, vs1, d1, ds1, p1, q1, rfl, rfl, rfl, h1, r1⟩ := trodAll_cons r0
  obtain ⟨v2, vs2, d2, ds2, p2, q2, rfl, rfl, rfl, h2, r2⟩ := trodAll_cons r1
  obtain ⟨rfl, rfl, rfl⟩ := trodAll_nil r2
  obtain rfl : args = #[v0, v1, v2] := by cases args; simp_all
  obtain ⟨rfl, rfl⟩ := trodVars_none hV
  have k0 := h0
  have lt0 : ∀ x ∈ p0, x.block < W.heap.size := by obtain ⟨m, hm⟩ := k0; exact DataW.trod_lt m _ _ _ hm
  obtain ⟨A0, n0, c0, e0⟩ := okWide_slice Try.underlying24 (hval 0 24 v0 rfl rfl)
  subst e0
  obtain ⟨l0, w0⟩ := open_argI Try.underlying24 Try.underlying3 (by kernel_rfl) h0
  have k1 := h1
  have lt1 : ∀ x ∈ p1, x.block < W.heap.size := by obtain ⟨m, hm⟩ := k1; exact DataW.trod_lt m _ _ _ hm
  obtain ⟨A1, n1, c1, e1⟩ := okWide_slice Try.underlying24 (hval 1 24 v1 rfl rfl)
  subst e1
  obtain ⟨l1, w1⟩ := open_argI Try.underlying24 Try.underlying3 (by kernel_rfl) h1
  have k2 := h2
  have lt2 : ∀ x ∈ p2, x.block < W.heap.size := by obtain ⟨m, hm⟩ := k2; exact DataW.trod_lt m _ _ _ hm
  obtain ⟨a2, e2, _, _, w2⟩ := open_int Try.underlying5 (hval 2 5 v2 rfl rfl) h2
  subst e2
  clear hA0
  refine (leastRest_walk A0 n0 c0 l0 A1 n1 c1 l1 a2 W w0 w1 w2).mono fun e W' ⟨he, bel⟩ => ?_
  subst he
  exact ⟨_, rfl, _, _, _, [], _, [], hW', trodAll_mk1 (shut_bool Try.underlying4 _), (trodAll_cons_mk (Below.trod laidOut (by kernel_rfl) (of_decide_eq_true (by kernel_rfl)) k0 bel lt0) (trodAll_cons_mk (Below.trod laidOut (by kernel_rfl) (of_decide_eq_true (by kernel_rfl)) k1 bel lt1) (trodAll_cons_mk (Below.trod laidOut (by kernel_rfl) (of_decide_eq_true (by kernel_rfl)) k2 bel lt2) trodAll_mk0))), rfl, bel.frame _, fun h => by cases h⟩

set_option maxRecDepth 100000 in
theorem lifted (os : Os) (started : os.Started) (H : Type) (enc : TypeId × Value → H) :
    ReturnsInHanded {} Try.checked os 7 .any (Rows.leastRestSpec.pre6 enc Try.prog Try.f7 Rows.leastRestRow.domain false) (Rows.leastRestSpec.post enc Try.prog Try.f7 false true false false) := by
  refine returnsInHanded_of_change (C := Try.checked) own started (by kernel_rfl) Try.func7
    (ChangeSpec.witness6 (enc := enc) (C := Try.checked) false ⟨#[], #[.slice none 0 0, .slice none 0 0, .int .u8 0], []⟩ 8 (by kernel_rfl) (by kernel_rfl) (by kernel_rfl) (by kernel_rfl)) ?_
  intro W base args ds gs before hval hW _ _
  exact contract H enc W base args ds gs before hval hW

/-- The statement. -/
theorem proved : Rows.LeastRestSaid :=
  OpenClaim.holds_of_wide 7 Try.f7 rfl rfl rfl rfl rfl rfl rfl ⟨rfl, rfl, rfl, rfl, rfl⟩ rfl rfl rfl rfl rfl (by kernel_rfl) Try.func7 (by kernel_rfl)
    (of_decide_eq_true (by kernel_rfl)) (by unfold Func.isWrapper; first | (rw [if_pos (by decide +kernel)]; kernel_rfl) | (rw [if_neg (by decide +kernel)]; exact ⟨rfl, rfl⟩))
    (fun os started H enc _ => lifted os started H enc)

end Go.Proofs.Ytobijkjonnoeiaa.leastRestP
