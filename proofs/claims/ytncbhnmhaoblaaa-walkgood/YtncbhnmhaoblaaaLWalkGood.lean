/-
  Proved: for every input tattinglaw22.WalkGood returns true, and its arguments read afterwards as before.
-/
import Derived.Test.YtncbhnmhaoblaaaM44
import Derived.Test.YtncbhnmhaoblaaaM45
namespace Go.Proofs.Ytncbhnmhaoblaaa.walkGoodP
open Go.ChangeShapes Go.WideShapes Go.ChangeAt Go.RowKit
open Go.ChangeMaps (open_string shut_string)

set_option maxRecDepth 100000 in
set_option maxHeartbeats 3200000 in
theorem walkGood_walk (Aa : Option Addr) (na ca : Nat) (a : List Int) (Ab : Option Addr) (nb cb : Nat) (b : List Int) (every : Int) (other : Bool) (w : World) (ha : ArgI w Aa na ca a) (hb : ArgI w Ab nb cb b) (hevery : (Lit.int .u8 every).wf = true) :
    Calls Try.prog 5 #[.slice Aa na ca, .slice Ab nb cb, .int .u8 every, .bool other] w (Yes w) := by
  obtain ⟨hna, hca, hma, r_a, hnila, hwfa⟩ := ha
  have Ha := Lib.hid hna
  have Wa := Lib.hid hwfa
  clear hna hwfa
  unfold maxLen at hma
  obtain ⟨hnb, hcb, hmb, r_b, hnilb, hwfb⟩ := hb
  have Hb := Lib.hid hnb
  have Wb := Lib.hid hwfb
  clear hnb hwfb
  unfold maxLen at hmb
  by_cases ga : na ≤ 40
  case neg =>
    go_enter Try.func5, Try.ntmps5
    go_wp2_with fail
    refine (awake22 _).mono ?_
    rintro e w1 ⟨rfl, hb1⟩
    go_wp2_with fail
    go_ret
    exact Yes.of hb1
  by_cases gb : nb ≤ 40
  case neg =>
    go_enter Try.func5, Try.ntmps5
    go_wp2_with fail
    refine (awake22 _).mono ?_
    rintro e w1 ⟨rfl, hb1⟩
    go_wp2_with fail
    go_ret
    exact Yes.of hb1
  have Be := bounds_u8 hevery
  clear hevery
  go_enter Try.func5, Try.ntmps5
  go_wp2_with fail
  refine (awake22 _).mono ?_
  rintro e w1 ⟨rfl, hb⟩
  have B := below_go (Below.refl _ _) hb
  replace r_a := r_a.below B
  replace r_b := r_b.below B
  have bb := B
  clear B hb
  have Hx := Ha
  have Hy := Hb
  have Wx := Wa
  have Wy := Wb
  obtain ⟨SN, hSN, hSl⟩ := steps_small (n := na) (m := nb) (by omega) (by omega)
  have hLl := way_len a b na nb Hx.out
  obtain ⟨WL, hWL⟩ : ∃ WL, wayL a b na nb = WL := ⟨_, rfl⟩
  have HWL := Lib.hid hWL
  rw [hWL] at hLl
  obtain ⟨Lc, hLc⟩ : ∃ Lc, WL.length = Lc := ⟨_, rfl⟩
  have HLc := Lib.hid hLc
  rw [hLc] at hLl
  obtain ⟨SW, hSW⟩ : ∃ SW : Int, (SN : Int) = SW := ⟨_, rfl⟩
  have hSl2 : 0 ≤ SW ∧ SW ≤ 17179869184 := by omega
  obtain ⟨hS1, hS2⟩ := hSl2
  have HSt : Hid (stepsW (na : Int) (nb : Int) = SW) := hSN.trans hSW
  have HSW : Hid (2 * stepsW (na : Int) (nb : Int) = 2 * SW) := by show _ = _; rw [HSt.out]
  clear hWL hLc hSN hSW hSl
  have HGd := Lib.hid (way_good a b)
  rw [Ha.out, Hb.out, HWL.out, HLc.out] at HGd
  obtain ⟨E, hE1, hE2, t1, t2⟩ : ∃ E : Int, 0 ≤ E ∧ E ≤ 49 ∧ every % 50 = E ∧ every.tmod 50 = E := ⟨every % 50, by omega, by omega, rfl, Int.tmod_eq_emod_of_nonneg Be.1⟩
  have we : IntKind.i64.wrap every = every := IntWalk.i64_in _ (by omega)
  cases other with
  | true =>
    go_wp2_with fail
    refine (wrun_w 1 (1 + E) Aa Ab na nb ca cb a b WL (2 * SW) _ Ha.out Hb.out (by omega) (by omega) hca (i64_small (by omega)) r_a r_b Wa.out Wb.out (by omega) HWL.out HSW.out).mono ?_
    rintro e w2 ⟨v, rfl, hv, hb⟩
    rw [HLc.out] at hv
    obtain ⟨V_l, c_l, rfl, _, _, r_l, _⟩ := own_sliceS hv
    clear hv
    have B := below_go (Below.refl _ _) hb
    replace r_a := r_a.below B
    replace r_b := r_b.below B
    replace bb := below_go bb B
    clear B hb
    go_wp2_with fail
    refine (wrun_w 0 1 Aa Ab na nb ca cb a b WL (2 * SW) _ Ha.out Hb.out (by omega) (by omega) hca (i64_small (by omega)) r_a r_b Wa.out Wb.out (by omega) HWL.out HSW.out).mono ?_
    rintro e w3 ⟨v, rfl, hv, hb⟩
    rw [HLc.out] at hv
    obtain ⟨V_m, c_m, rfl, _, _, r_m, _⟩ := own_sliceS hv
    clear hv
    have B := below_go (Below.refl _ _) hb
    replace r_a := r_a.below B
    replace r_b := r_b.below B
    replace r_l := r_l.below B
    replace bb := below_go bb B
    clear B hb
    go_wp2_with fail
    refine (samePairs_any V_l V_m Lc Lc c_l c_m WL WL _ HLc.out HLc.out (by omega) r_l r_m).mono ?_
    rintro e w4 ⟨rfl, q, hq⟩
    have hb := below_of hq
    clear hq
    have B := below_go (Below.refl _ _) hb
    replace r_a := r_a.below B
    replace r_b := r_b.below B
    replace r_l := r_l.below B
    replace r_m := r_m.below B
    replace bb := below_go bb B
    clear B hb
    rw [show decide (WL = WL) = true by simp]
    clear r_m
    go_wp2_with fail
    refine (good_any _ _ _ na nb Lc _ _ _ a b WL _ Ha.out Hb.out HLc.out (by omega) r_a r_b r_l).mono ?_
    rintro e w5 ⟨rfl, hb⟩
    have B := below_go (Below.refl _ _) hb
    replace r_a := r_a.below B
    replace r_b := r_b.below B
    replace r_l := r_l.below B
    replace bb := below_go bb B
    clear B hb
    rw [HGd.out.1]
    clear r_l
    go_wp2_with fail
    refine (len_any _ _ na nb _ _ a b _ Ha.out Hb.out (by omega) (by omega) r_a r_b).mono ?_
    rintro e w6 ⟨rfl, hb⟩
    have B := below_go (Below.refl _ _) hb
    replace r_a := r_a.below B
    replace r_b := r_b.below B
    replace bb := below_go bb B
    clear B hb
    rw [← HGd.out.2]
    go_wp2_with fail
    go_ret
    exact Yes.of bb
  | false =>
    go_wp2_with fail
    refine (wrun_w 0 (1 + E) Aa Ab na nb ca cb a b WL (2 * SW) _ Ha.out Hb.out (by omega) (by omega) hca (i64_small (by omega)) r_a r_b Wa.out Wb.out (by omega) HWL.out HSW.out).mono ?_
    rintro e w2 ⟨v, rfl, hv, hb⟩
    rw [HLc.out] at hv
    obtain ⟨V_l, c_l, rfl, _, _, r_l, _⟩ := own_sliceS hv
    clear hv
    have B := below_go (Below.refl _ _) hb
    replace r_a := r_a.below B
    replace r_b := r_b.below B
    replace bb := below_go bb B
    clear B hb
    go_wp2_with fail
    refine (wrun_w 1 1 Aa Ab na nb ca cb a b WL (2 * SW) _ Ha.out Hb.out (by omega) (by omega) hca (i64_small (by omega)) r_a r_b Wa.out Wb.out (by omega) HWL.out HSW.out).mono ?_
    rintro e w3 ⟨v, rfl, hv, hb⟩
    rw [HLc.out] at hv
    obtain ⟨V_m, c_m, rfl, _, _, r_m, _⟩ := own_sliceS hv
    clear hv
    have B := below_go (Below.refl _ _) hb
    replace r_a := r_a.below B
    replace r_b := r_b.below B
    replace r_l := r_l.below B
    replace bb := below_go bb B
    clear B hb
    go_wp2_with fail
    refine (samePairs_any V_l V_m Lc Lc c_l c_m WL WL _ HLc.out HLc.out (by omega) r_l r_m).mono ?_
    rintro e w4 ⟨rfl, q, hq⟩
    have hb := below_of hq
    clear hq
    have B := below_go (Below.refl _ _) hb
    replace r_a := r_a.below B
    replace r_b := r_b.below B
    replace r_l := r_l.below B
    replace r_m := r_m.below B
    replace bb := below_go bb B
    clear B hb
    rw [show decide (WL = WL) = true by simp]
    clear r_m
    go_wp2_with fail
    refine (good_any _ _ _ na nb Lc _ _ _ a b WL _ Ha.out Hb.out HLc.out (by omega) r_a r_b r_l).mono ?_
    rintro e w5 ⟨rfl, hb⟩
    have B := below_go (Below.refl _ _) hb
    replace r_a := r_a.below B
    replace r_b := r_b.below B
    replace r_l := r_l.below B
    replace bb := below_go bb B
    clear B hb
    rw [HGd.out.1]
    clear r_l
    go_wp2_with fail
    refine (len_any _ _ na nb _ _ a b _ Ha.out Hb.out (by omega) (by omega) r_a r_b).mono ?_
    rintro e w6 ⟨rfl, hb⟩
    have B := below_go (Below.refl _ _) hb
    replace r_a := r_a.below B
    replace r_b := r_b.below B
    replace bb := below_go bb B
    clear B hb
    rw [← HGd.out.2]
    go_wp2_with fail
    go_ret
    exact Yes.of bb

/-! ### The row's step -/
theorem own : ownKnob Try.prog.godebug = none := by kernel_rfl
theorem laidOut : laidOutB Try.prog = true := by kernel_rfl

set_option maxRecDepth 100000 in
theorem contract (H : Type) (enc : TypeId × Value → H) (W : World) (base : Nat) (args : Array Value) (ds gs : List (DataW H)) (before : List MemPlace)
    (hval : ∀ (j : Nat) t v, Try.f5.params[j]? = some t → args[j]? = some v → Value.okWide Try.prog W .any base t v)
    (hW : DataW.Whole enc Try.prog Try.f5.params.toList Rows.walkGoodSpec.vars false W args.toList ds gs before) :
    Calls Try.prog 5 args W fun e W' => ∃ v, e = .returned v ∧ Rows.walkGoodSpec.post enc Try.prog Try.f5 false true false false W args v W' := by
  have hW' := hW
  obtain ⟨p, q, hA0, hV, rfl, hfz, hnd⟩ := hW
  have hA : DataW.TrodAll enc Try.prog W 0 (fun _ => true) true Try.f5.params.toList args.toList ds p := hA0
  rw [Try.params5] at hA hval
  obtain ⟨v0, vs0, d0, ds0, p0, q0, hargs, rfl, rfl, h0, r0⟩ := trodAll_cons hA
  obtain ⟨v1, vs1, d1, ds1, p1, q1, rfl, rfl, rfl, h1, r1⟩ := trodAll_cons r0
  obtain ⟨v2, vs2, d2, ds2, p2, q2, rfl, rfl, rfl, h2, r2⟩ := trodAll_cons r1
  obtain ⟨v3, vs3, d3, ds3, p3, q3, rfl, rfl, rfl, h3, r3⟩ := trodAll_cons r2
  obtain ⟨rfl, rfl, rfl⟩ := trodAll_nil r3
  obtain rfl : args = #[v0, v1, v2, v3] := by cases args; simp_all
  obtain ⟨rfl, rfl⟩ := trodVars_none hV
  have k0 := h0
  have lt0 : ∀ x ∈ p0, x.block < W.heap.size := by obtain ⟨m, hm⟩ := k0; exact DataW.trod_lt m _ _ _ hm
  obtain ⟨A0, n0, c0, e0⟩ := okWide_slice Try.underlying26 (hval 0 26 v0 rfl rfl)
  subst e0
  obtain ⟨l0, w0⟩ := open_argI Try.underlying26 Try.underlying3 (by kernel_rfl) h0
  have k1 := h1
  have lt1 : ∀ x ∈ p1, x.block < W.heap.size := by obtain ⟨m, hm⟩ := k1; exact DataW.trod_lt m _ _ _ hm
  obtain ⟨A1, n1, c1, e1⟩ := okWide_slice Try.underlying26 (hval 1 26 v1 rfl rfl)
  subst e1
  obtain ⟨l1, w1⟩ := open_argI Try.underlying26 Try.underlying3 (by kernel_rfl) h1
  have k2 := h2
  have lt2 : ∀ x ∈ p2, x.block < W.heap.size := by obtain ⟨m, hm⟩ := k2; exact DataW.trod_lt m _ _ _ hm
  obtain ⟨a2, e2, _, _, w2⟩ := open_int Try.underlying5 (hval 2 5 v2 rfl rfl) h2
  subst e2
  have k3 := h3
  have lt3 : ∀ x ∈ p3, x.block < W.heap.size := by obtain ⟨m, hm⟩ := k3; exact DataW.trod_lt m _ _ _ hm
  obtain ⟨a3, e3, _, _⟩ := open_bool Try.underlying4 (hval 3 4 v3 rfl rfl) h3
  subst e3
  clear hA0
  refine (walkGood_walk A0 n0 c0 l0 A1 n1 c1 l1 a2 a3 W w0 w1 w2).mono fun e W' ⟨he, bel⟩ => ?_
  subst he
  exact ⟨_, rfl, _, _, _, [], _, [], hW', trodAll_mk1 (shut_bool Try.underlying4 _), (trodAll_cons_mk (Below.trod laidOut (by kernel_rfl) (of_decide_eq_true (by kernel_rfl)) k0 bel lt0) (trodAll_cons_mk (Below.trod laidOut (by kernel_rfl) (of_decide_eq_true (by kernel_rfl)) k1 bel lt1) (trodAll_cons_mk (Below.trod laidOut (by kernel_rfl) (of_decide_eq_true (by kernel_rfl)) k2 bel lt2) (trodAll_cons_mk (Below.trod laidOut (by kernel_rfl) (of_decide_eq_true (by kernel_rfl)) k3 bel lt3) trodAll_mk0)))), rfl, bel.frame _, fun h => by cases h⟩

set_option maxRecDepth 100000 in
theorem lifted (os : Os) (started : os.Started) (H : Type) (enc : TypeId × Value → H) :
    ReturnsInHanded {} Try.checked os 5 .any (Rows.walkGoodSpec.pre6 enc Try.prog Try.f5 Rows.walkGoodRow.domain false) (Rows.walkGoodSpec.post enc Try.prog Try.f5 false true false false) := by
  refine returnsInHanded_of_change (C := Try.checked) own started (by kernel_rfl) Try.func5
    (ChangeSpec.witness6 (enc := enc) (C := Try.checked) false ⟨#[], #[.slice none 0 0, .slice none 0 0, .int .u8 0, .bool false], []⟩ 8 (by kernel_rfl) (by kernel_rfl) (by kernel_rfl) (by kernel_rfl)) ?_
  intro W base args ds gs before hval hW _ _
  exact contract H enc W base args ds gs before hval hW

/-- The statement. -/
theorem proved : Rows.WalkGoodSaid :=
  OpenClaim.holds_of_wide 5 Try.f5 rfl rfl rfl rfl rfl rfl rfl ⟨rfl, rfl, rfl, rfl, rfl⟩ rfl rfl rfl rfl rfl (by kernel_rfl) Try.func5 (by kernel_rfl)
    (of_decide_eq_true (by kernel_rfl)) (by unfold Func.isWrapper; first | (rw [if_pos (by decide +kernel)]; kernel_rfl) | (rw [if_neg (by decide +kernel)]; exact ⟨rfl, rfl⟩))
    (fun os started H enc _ => lifted os started H enc)

end Go.Proofs.Ytncbhnmhaoblaaa.walkGoodP
