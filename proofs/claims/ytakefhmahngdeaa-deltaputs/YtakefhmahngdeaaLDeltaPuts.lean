/-
  Proved: for every input tattinglaw12.DeltaPuts returns true, and its arguments read afterwards as before.
-/
import Derived.Test.YtakefhmahngdeaaAwake12
import Derived.Test.YtakefhmahngdeaaArgs
import Derived.Test.YtakefhmahngdeaaDlQ
import Derived.Test.YtakefhmahngdeaaSlcB
import Derived.BigQuiet
namespace Go.Proofs.Ytakefhmahngdeaa.deltaPutsP
open Go.ChangeShapes Go.WideShapes Go.ChangeAt Go.RowKit
open Go.ChangeMaps (open_string shut_string)

theorem key_quiet (A : Option Addr) (n c : Nat) (d : List UInt8) (at' t : Int) (w : World) (q : Nat) (hn : d.length = n) (hb : n ≤ 1048576) (hc : n ≤ c) (h1 : I64 at') (h2 : I64 t) {K : Nat} (hK : keyL d at' t = K) (hr : Row w A (bv d)) :
    Calls Try.prog 13 #[.slice A n c, .int .i64 at', .int .i64 t] (w.drewN q) fun e w' => e = .returned (.int .i64 (K : Nat)) ∧ ∃ k, w' = w.drewN k := by
  subst hK
  exact (pkey_any A n c d at' t (w.drewN q) hn hb hc h1 h2 hr).mono fun e w' ⟨he, hw⟩ => ⟨he, q, hw.symm⟩

set_option maxRecDepth 100000 in
set_option maxHeartbeats 3200000 in
theorem deltaPuts_walk (Ad : Option Addr) (nd cd : Nat) (d : List UInt8) (p : Int) (t : Int) (q : Int) (w : World) (hd : ArgB w Ad nd cd d) (hp : (Lit.int .u8 p).wf = true) (ht : (Lit.int .u8 t).wf = true) (hq : (Lit.int .u8 q).wf = true) :
    Calls Try.prog 7 #[.slice Ad nd cd, .int .u8 p, .int .u8 t, .int .u8 q] w (Yes w) := by
  obtain ⟨hnd, hcd, hmd, r_d, hnild⟩ := hd
  have Hd := Lib.hid hnd
  clear hnd
  unfold maxLen at hmd
  by_cases gd : nd ≤ 60
  case neg =>
    go_enter Try.func7, Try.ntmps7
    go_wp2_with fail
    refine (awake12 _).mono ?_
    rintro e w1 ⟨rfl, hb1⟩
    go_wp2_with fail
    go_ret
    exact Yes.of hb1
  have Bp := bounds_u8 hp
  have Bt := bounds_u8 ht
  have Bq := bounds_u8 hq
  clear hp ht hq
  by_cases gl : 3 ≤ nd
  case neg =>
    go_enter Try.func7, Try.ntmps7
    go_wp2_with fail
    refine (awake12 _).mono ?_
    rintro e w1 ⟨rfl, hb1⟩
    go_wp2_with fail
    go_ret
    exact Yes.of hb1
  obtain ⟨q, rfl⟩ := Int.eq_ofNat_of_zero_le Bq.1
  have hw1 : IntKind.i64.wrap p = p := IntWalk.i64_in _ (by omega)
  have hw2 : IntKind.i64.wrap t = t := IntWalk.i64_in _ (by omega)
  have hw3 : IntKind.i64.wrap (q : Int) = (q : Int) := IntWalk.i64_in _ (by omega)
  have htt : t.tmod 3 = 0 ∨ t.tmod 3 = 1 ∨ t.tmod 3 = 2 := by rw [Int.tmod_eq_emod_of_nonneg Bt.1]; omega
  go_enter Try.func7, Try.ntmps7
  go_wp2_with fail
  refine (awake12 _).mono ?_
  rintro e w1 ⟨rfl, hb⟩
  have B := below_go (Below.refl _ _) hb
  replace r_d := r_d.below B
  have bb := B
  clear B hb
  rcases htt with htt | htt | htt
  · obtain ⟨M, hM⟩ : ∃ M : Nat, M + 1 = nd + 1 := ⟨nd + 1 - 1, by omega⟩
    obtain ⟨N, hN, hNt⟩ : ∃ N : Nat, N + 1 ≤ nd ∧ p.tmod (M : Int) = (N : Int) := by
      have h1 := Int.emod_nonneg p (show (M : Int) ≠ 0 by omega)
      have h2 := Int.emod_lt_of_pos p (show (0 : Int) < (M : Int) by omega)
      exact ⟨(p % (M : Int)).toNat, by omega, by rw [Int.tmod_eq_emod_of_nonneg Bp.1]; omega⟩
    have em : (nd : Int) - 1 + 1 = (M : Int) := by omega
    have hne : ((M : Int) == 0) = false := by simp; omega
    have hne2 : (M : Int) ≠ 0 := by omega
    obtain ⟨f1, f2, f3⟩ : (putL d N 1 q).take N = d.take N ∧ (putL d N 1 q).drop (N + 1) = d.drop (N + 1) ∧ keyL (putL d N 1 q) N 1 = q % 2 := put_facts (S := 1) (by decide) (by decide) (by rw [Hd.out]; exact hN)
    have HX : Hid ((putL d N 1 q).length = nd) := by show _ = _; rw [putL_length, Hd.out]
    have F1 := Lib.hid f1
    have F2 := Lib.hid f2
    obtain ⟨z, hzq⟩ : ∃ z, q % 2 = z := ⟨_, rfl⟩
    have hzt : (q : Int).tmod 2 = (z : Int) := by rw [Int.tmod_eq_emod_of_nonneg (by omega)]; omega
    rw [hzq] at f3
    have F3 := Lib.hid f3
    clear f1 f2 f3 hzq
    go_wp2_with fail
    refine (pput_any _ nd _ d N 1 q _ Hd.out (by omega) (by unfold I64; omega) (by decide) r_d).mono ?_
    rintro e w2 ⟨v, rfl, hv, hb⟩
    have B := below_go (Below.refl _ _) hb
    replace r_d := r_d.below B
    replace bb := below_go bb B
    clear B hb
    unfold OwnB at hv
    rw [HX.out] at hv
    obtain ⟨V_x, c_x, rfl, hq_x, _, r_x, _⟩ := own_slice hv
    clear hv
    generalize putL d N 1 q = X at *
    have hz1 : ((nd : Int) != (nd : Int)) = false := by simp
    go_wp2_with fail
    go_quiet ((go_at_call 13; exact key_quiet _ nd _ X N 1 _ _ HX.out (by omega) hq_x (by unfold I64; omega) (by decide) F3.out r_x))
    have hw' := below_drewN bb nq
    have rx' : Row (w2.drewN nq) V_x (bv X) := r_x
    have rd' : Row (w2.drewN nq) Ad (bv d) := r_d
    clear bb r_x r_d F3
    generalize w2.drewN nq = wy at *
    obtain ⟨s1, s2⟩ := slice_toB V_x nd c_x N X wy rx' (by omega)
    obtain ⟨s3, s4⟩ := slice_toB Ad nd cd N d wy rd' (by omega)
    obtain ⟨A1, c1, s5, _, s6⟩ := slice_fromB V_x nd c_x (N + 1) X wy rx' HX.out hq_x hN
    obtain ⟨A2, c2, s7, _, s8⟩ := slice_fromB Ad nd cd (N + 1) d wy rd' Hd.out hcd hN
    simp only [Int.natCast_add, Int.cast_ofNat_Int] at s5 s7
    have G1 : Hid ((X.take N).length = N) := by show _ = _; rw [List.length_take, HX.out]; omega
    have G2 : Hid ((d.take N).length = N) := by show _ = _; rw [List.length_take, Hd.out]; omega
    have G3 : Hid ((X.drop (N + 1)).length = nd - (N + 1)) := by show _ = _; rw [List.length_drop, HX.out]
    have G4 : Hid ((d.drop (N + 1)).length = nd - (N + 1)) := by show _ = _; rw [List.length_drop, Hd.out]
    have Q1 : Hid (decide (X.take N = d.take N) = true) := decide_eq_true F1.out
    have Q2 : Hid (decide (X.drop (N + 1) = d.drop (N + 1)) = true) := decide_eq_true F2.out
    clear F1 F2 rx' rd'
    generalize X.take N = x1 at *
    generalize d.take N = x2 at *
    generalize X.drop (N + 1) = x3 at *
    generalize d.drop (N + 1) = x4 at *
    go_wp2_with fail
    go_quiet (first | (go_at_call 14; exact refSame_quiet _ _ _ _ _ _ _ x1 x2 _ _ G1.out G2.out s2 s4 Q1.out) | (go_at_call 14; exact refSame_quiet _ _ _ _ _ _ _ x3 x4 _ _ G3.out G4.out s6 s8 Q2.out))
    have bz := below_drewN hw' nq
    clear hw' s1 s2 s3 s4 s5 s6 s7 s8
    go_wp2_with fail
    go_ret
    exact Yes.of bz
  · obtain ⟨M, hM⟩ : ∃ M : Nat, M + 2 = nd + 1 := ⟨nd + 1 - 2, by omega⟩
    obtain ⟨N, hN, hNt⟩ : ∃ N : Nat, N + 2 ≤ nd ∧ p.tmod (M : Int) = (N : Int) := by
      have h1 := Int.emod_nonneg p (show (M : Int) ≠ 0 by omega)
      have h2 := Int.emod_lt_of_pos p (show (0 : Int) < (M : Int) by omega)
      exact ⟨(p % (M : Int)).toNat, by omega, by rw [Int.tmod_eq_emod_of_nonneg Bp.1]; omega⟩
    have em : (nd : Int) - 2 + 1 = (M : Int) := by omega
    have hne : ((M : Int) == 0) = false := by simp; omega
    have hne2 : (M : Int) ≠ 0 := by omega
    obtain ⟨f1, f2, f3⟩ : (putL d N 2 q).take N = d.take N ∧ (putL d N 2 q).drop (N + 2) = d.drop (N + 2) ∧ keyL (putL d N 2 q) N 2 = q % 4 := put_facts (S := 2) (by decide) (by decide) (by rw [Hd.out]; exact hN)
    have HX : Hid ((putL d N 2 q).length = nd) := by show _ = _; rw [putL_length, Hd.out]
    have F1 := Lib.hid f1
    have F2 := Lib.hid f2
    obtain ⟨z, hzq⟩ : ∃ z, q % 4 = z := ⟨_, rfl⟩
    have hzt : (q : Int).tmod 4 = (z : Int) := by rw [Int.tmod_eq_emod_of_nonneg (by omega)]; omega
    rw [hzq] at f3
    have F3 := Lib.hid f3
    clear f1 f2 f3 hzq
    go_wp2_with fail
    refine (pput_any _ nd _ d N 2 q _ Hd.out (by omega) (by unfold I64; omega) (by decide) r_d).mono ?_
    rintro e w2 ⟨v, rfl, hv, hb⟩
    have B := below_go (Below.refl _ _) hb
    replace r_d := r_d.below B
    replace bb := below_go bb B
    clear B hb
    unfold OwnB at hv
    rw [HX.out] at hv
    obtain ⟨V_x, c_x, rfl, hq_x, _, r_x, _⟩ := own_slice hv
    clear hv
    generalize putL d N 2 q = X at *
    have hz1 : ((nd : Int) != (nd : Int)) = false := by simp
    go_wp2_with fail
    go_quiet ((go_at_call 13; exact key_quiet _ nd _ X N 2 _ _ HX.out (by omega) hq_x (by unfold I64; omega) (by decide) F3.out r_x))
    have hw' := below_drewN bb nq
    have rx' : Row (w2.drewN nq) V_x (bv X) := r_x
    have rd' : Row (w2.drewN nq) Ad (bv d) := r_d
    clear bb r_x r_d F3
    generalize w2.drewN nq = wy at *
    obtain ⟨s1, s2⟩ := slice_toB V_x nd c_x N X wy rx' (by omega)
    obtain ⟨s3, s4⟩ := slice_toB Ad nd cd N d wy rd' (by omega)
    obtain ⟨A1, c1, s5, _, s6⟩ := slice_fromB V_x nd c_x (N + 2) X wy rx' HX.out hq_x hN
    obtain ⟨A2, c2, s7, _, s8⟩ := slice_fromB Ad nd cd (N + 2) d wy rd' Hd.out hcd hN
    simp only [Int.natCast_add, Int.cast_ofNat_Int] at s5 s7
    have G1 : Hid ((X.take N).length = N) := by show _ = _; rw [List.length_take, HX.out]; omega
    have G2 : Hid ((d.take N).length = N) := by show _ = _; rw [List.length_take, Hd.out]; omega
    have G3 : Hid ((X.drop (N + 2)).length = nd - (N + 2)) := by show _ = _; rw [List.length_drop, HX.out]
    have G4 : Hid ((d.drop (N + 2)).length = nd - (N + 2)) := by show _ = _; rw [List.length_drop, Hd.out]
    have Q1 : Hid (decide (X.take N = d.take N) = true) := decide_eq_true F1.out
    have Q2 : Hid (decide (X.drop (N + 2) = d.drop (N + 2)) = true) := decide_eq_true F2.out
    clear F1 F2 rx' rd'
    generalize X.take N = x1 at *
    generalize d.take N = x2 at *
    generalize X.drop (N + 2) = x3 at *
    generalize d.drop (N + 2) = x4 at *
    go_wp2_with fail
    go_quiet (first | (go_at_call 14; exact refSame_quiet _ _ _ _ _ _ _ x1 x2 _ _ G1.out G2.out s2 s4 Q1.out) | (go_at_call 14; exact refSame_quiet _ _ _ _ _ _ _ x3 x4 _ _ G3.out G4.out s6 s8 Q2.out))
    have bz := below_drewN hw' nq
    clear hw' s1 s2 s3 s4 s5 s6 s7 s8
    go_wp2_with fail
    go_ret
    exact Yes.of bz
  · obtain ⟨M, hM⟩ : ∃ M : Nat, M + 3 = nd + 1 := ⟨nd + 1 - 3, by omega⟩
    obtain ⟨N, hN, hNt⟩ : ∃ N : Nat, N + 3 ≤ nd ∧ p.tmod (M : Int) = (N : Int) := by
      have h1 := Int.emod_nonneg p (show (M : Int) ≠ 0 by omega)
      have h2 := Int.emod_lt_of_pos p (show (0 : Int) < (M : Int) by omega)
      exact ⟨(p % (M : Int)).toNat, by omega, by rw [Int.tmod_eq_emod_of_nonneg Bp.1]; omega⟩
    have em : (nd : Int) - 3 + 1 = (M : Int) := by omega
    have hne : ((M : Int) == 0) = false := by simp; omega
    have hne2 : (M : Int) ≠ 0 := by omega
    obtain ⟨f1, f2, f3⟩ : (putL d N 3 q).take N = d.take N ∧ (putL d N 3 q).drop (N + 3) = d.drop (N + 3) ∧ keyL (putL d N 3 q) N 3 = q % 8 := put_facts (S := 3) (by decide) (by decide) (by rw [Hd.out]; exact hN)
    have HX : Hid ((putL d N 3 q).length = nd) := by show _ = _; rw [putL_length, Hd.out]
    have F1 := Lib.hid f1
    have F2 := Lib.hid f2
    obtain ⟨z, hzq⟩ : ∃ z, q % 8 = z := ⟨_, rfl⟩
    have hzt : (q : Int).tmod 8 = (z : Int) := by rw [Int.tmod_eq_emod_of_nonneg (by omega)]; omega
    rw [hzq] at f3
    have F3 := Lib.hid f3
    clear f1 f2 f3 hzq
    go_wp2_with fail
    refine (pput_any _ nd _ d N 3 q _ Hd.out (by omega) (by unfold I64; omega) (by decide) r_d).mono ?_
    rintro e w2 ⟨v, rfl, hv, hb⟩
    have B := below_go (Below.refl _ _) hb
    replace r_d := r_d.below B
    replace bb := below_go bb B
    clear B hb
    unfold OwnB at hv
    rw [HX.out] at hv
    obtain ⟨V_x, c_x, rfl, hq_x, _, r_x, _⟩ := own_slice hv
    clear hv
    generalize putL d N 3 q = X at *
    have hz1 : ((nd : Int) != (nd : Int)) = false := by simp
    go_wp2_with fail
    go_quiet ((go_at_call 13; exact key_quiet _ nd _ X N 3 _ _ HX.out (by omega) hq_x (by unfold I64; omega) (by decide) F3.out r_x))
    have hw' := below_drewN bb nq
    have rx' : Row (w2.drewN nq) V_x (bv X) := r_x
    have rd' : Row (w2.drewN nq) Ad (bv d) := r_d
    clear bb r_x r_d F3
    generalize w2.drewN nq = wy at *
    obtain ⟨s1, s2⟩ := slice_toB V_x nd c_x N X wy rx' (by omega)
    obtain ⟨s3, s4⟩ := slice_toB Ad nd cd N d wy rd' (by omega)
    obtain ⟨A1, c1, s5, _, s6⟩ := slice_fromB V_x nd c_x (N + 3) X wy rx' HX.out hq_x hN
    obtain ⟨A2, c2, s7, _, s8⟩ := slice_fromB Ad nd cd (N + 3) d wy rd' Hd.out hcd hN
    simp only [Int.natCast_add, Int.cast_ofNat_Int] at s5 s7
    have G1 : Hid ((X.take N).length = N) := by show _ = _; rw [List.length_take, HX.out]; omega
    have G2 : Hid ((d.take N).length = N) := by show _ = _; rw [List.length_take, Hd.out]; omega
    have G3 : Hid ((X.drop (N + 3)).length = nd - (N + 3)) := by show _ = _; rw [List.length_drop, HX.out]
    have G4 : Hid ((d.drop (N + 3)).length = nd - (N + 3)) := by show _ = _; rw [List.length_drop, Hd.out]
    have Q1 : Hid (decide (X.take N = d.take N) = true) := decide_eq_true F1.out
    have Q2 : Hid (decide (X.drop (N + 3) = d.drop (N + 3)) = true) := decide_eq_true F2.out
    clear F1 F2 rx' rd'
    generalize X.take N = x1 at *
    generalize d.take N = x2 at *
    generalize X.drop (N + 3) = x3 at *
    generalize d.drop (N + 3) = x4 at *
    go_wp2_with fail
    go_quiet (first | (go_at_call 14; exact refSame_quiet _ _ _ _ _ _ _ x1 x2 _ _ G1.out G2.out s2 s4 Q1.out) | (go_at_call 14; exact refSame_quiet _ _ _ _ _ _ _ x3 x4 _ _ G3.out G4.out s6 s8 Q2.out))
    have bz := below_drewN hw' nq
    clear hw' s1 s2 s3 s4 s5 s6 s7 s8
    go_wp2_with fail
    go_ret
    exact Yes.of bz

/-! ### The row's step -/
theorem own : ownKnob Try.prog.godebug = none := by kernel_rfl
theorem laidOut : laidOutB Try.prog = true := by kernel_rfl

theorem contract (H : Type) (enc : TypeId × Value → H) (W : World) (base : Nat) (args : Array Value) (ds gs : List (DataW H)) (before : List MemPlace)
    (hval : ∀ (j : Nat) t v, Try.f7.params[j]? = some t → args[j]? = some v → Value.okWide Try.prog W .any base t v)
    (hW : DataW.Whole enc Try.prog Try.f7.params.toList Rows.deltaPutsSpec.vars false W args.toList ds gs before) :
    Calls Try.prog 7 args W fun e W' => ∃ v, e = .returned v ∧ Rows.deltaPutsSpec.post enc Try.prog Try.f7 false true false false W args v W' := by
  have hW' := hW
  obtain ⟨p, q, hA0, hV, rfl, hfz, hnd⟩ := hW
  have hA : DataW.TrodAll enc Try.prog W 0 (fun _ => true) true Try.f7.params.toList args.toList ds p := hA0
  rw [Try.params7] at hA hval
  obtain ⟨v0, vs0, d0, ds0, p0, q0, hargs, rfl, rfl, h0, r0⟩ := trodAll_cons hA
  obtain ⟨v1, vs1, d1, ds1, p1, q1, rfl, rfl, rfl, h1, r1⟩ := trodAll_cons r0
  obtain ⟨v2, vs2, d2, ds2, p2, q2, rfl, rfl, rfl, h2, r2⟩ := trodAll_cons r1
  obtain ⟨v3, vs3, d3, ds3, p3, q3, rfl, rfl, rfl, h3, r3⟩ := trodAll_cons r2
  obtain ⟨rfl, rfl, rfl⟩ := trodAll_nil r3
  obtain rfl : args = #[v0, v1, v2, v3] := by cases args; simp_all
  obtain ⟨rfl, rfl⟩ := trodVars_none hV
  have k0 := h0
  have lt0 : ∀ x ∈ p0, x.block < W.heap.size := by obtain ⟨m, hm⟩ := k0; exact DataW.trod_lt m _ _ _ hm
  obtain ⟨A0, n0, c0, e0⟩ := okWide_slice Try.underlying23 (hval 0 23 v0 rfl rfl)
  subst e0
  obtain ⟨l0, w0⟩ := open_argB Try.underlying23 Try.underlying5 (by kernel_rfl) h0
  have k1 := h1
  have lt1 : ∀ x ∈ p1, x.block < W.heap.size := by obtain ⟨m, hm⟩ := k1; exact DataW.trod_lt m _ _ _ hm
  obtain ⟨a1, e1, _, _, w1⟩ := open_int Try.underlying5 (hval 1 5 v1 rfl rfl) h1
  subst e1
  have k2 := h2
  have lt2 : ∀ x ∈ p2, x.block < W.heap.size := by obtain ⟨m, hm⟩ := k2; exact DataW.trod_lt m _ _ _ hm
  obtain ⟨a2, e2, _, _, w2⟩ := open_int Try.underlying5 (hval 2 5 v2 rfl rfl) h2
  subst e2
  have k3 := h3
  have lt3 : ∀ x ∈ p3, x.block < W.heap.size := by obtain ⟨m, hm⟩ := k3; exact DataW.trod_lt m _ _ _ hm
  obtain ⟨a3, e3, _, _, w3⟩ := open_int Try.underlying5 (hval 3 5 v3 rfl rfl) h3
  subst e3
  clear hA0
  refine (deltaPuts_walk A0 n0 c0 l0 a1 a2 a3 W w0 w1 w2 w3).mono fun e W' ⟨he, bel⟩ => ?_
  subst he
  exact ⟨_, rfl, _, _, _, [], _, [], hW', trodAll_mk1 (shut_bool Try.underlying4 _), (trodAll_cons_mk (Below.trod laidOut (by kernel_rfl) (of_decide_eq_true (by kernel_rfl)) k0 bel lt0) (trodAll_cons_mk (Below.trod laidOut (by kernel_rfl) (of_decide_eq_true (by kernel_rfl)) k1 bel lt1) (trodAll_cons_mk (Below.trod laidOut (by kernel_rfl) (of_decide_eq_true (by kernel_rfl)) k2 bel lt2) (trodAll_cons_mk (Below.trod laidOut (by kernel_rfl) (of_decide_eq_true (by kernel_rfl)) k3 bel lt3) trodAll_mk0)))), rfl, bel.frame _, fun h => by cases h⟩

set_option maxRecDepth 100000 in
theorem lifted (os : Os) (started : os.Started) (H : Type) (enc : TypeId × Value → H) :
    ReturnsInHanded {} Try.checked os 7 .any (Rows.deltaPutsSpec.pre6 enc Try.prog Try.f7 Rows.deltaPutsRow.domain false) (Rows.deltaPutsSpec.post enc Try.prog Try.f7 false true false false) := by
  refine returnsInHanded_of_change (C := Try.checked) own started (by kernel_rfl) Try.func7
    (ChangeSpec.witness6 (enc := enc) (C := Try.checked) false ⟨#[], #[.slice none 0 0, .int .u8 0, .int .u8 0, .int .u8 0], []⟩ 8 (by kernel_rfl) (by kernel_rfl) (by kernel_rfl) (by kernel_rfl)) ?_
  intro W base args ds gs before hval hW _ _
  exact contract H enc W base args ds gs before hval hW

/-- The statement. -/
theorem proved : Rows.DeltaPutsSaid :=
  OpenClaim.holds_of_wide 7 Try.f7 rfl rfl rfl rfl rfl rfl rfl ⟨rfl, rfl, rfl, rfl, rfl⟩ rfl rfl rfl rfl rfl (by kernel_rfl) Try.func7 (by kernel_rfl)
    (of_decide_eq_true (by kernel_rfl)) (by unfold Func.isWrapper; first | (rw [if_pos (by decide +kernel)]; kernel_rfl) | (rw [if_neg (by decide +kernel)]; exact ⟨rfl, rfl⟩))
    (fun os started H enc _ => lifted os started H enc)

end Go.Proofs.Ytakefhmahngdeaa.deltaPutsP
