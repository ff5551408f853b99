/-
  Proved: for every input tattinglaw22.WalkRuns returns true, and its arguments read afterwards as before.
-/
import Derived.Test.YtncbhnmhaoblaaaM44
import Derived.Test.YtncbhnmhaoblaaaM45
namespace Go.Proofs.Ytncbhnmhaoblaaa.walkRunsP
open Go.ChangeShapes Go.WideShapes Go.ChangeAt Go.RowKit
open Go.ChangeMaps (open_string shut_string)

set_option maxRecDepth 100000 in
set_option maxHeartbeats 3200000 in
theorem walkRuns_walk (kind : Int) (Aa : Option Addr) (na ca : Nat) (a : List Int) (Ab : Option Addr) (nb cb : Nat) (b : List Int) (every : Int) (w : World) (hkind : (Lit.int .i64 kind).wf = true) (ha : ArgI w Aa na ca a) (hb : ArgI w Ab nb cb b) (hevery : (Lit.int .i64 every).wf = true) :
    Calls Try.prog 4 #[.int .i64 kind, .slice Aa na ca, .slice Ab nb cb, .int .i64 every] w (Yes w) := by
  have Wkind : Hid (I64 kind) := bounds_i64 hkind
  clear hkind
  obtain ⟨hna, hca, hma, r_a, hnila, hwfa⟩ := ha
  have Ha := Lib.hid hna
  have Wa := Lib.hid hwfa
  clear hna hwfa
  unfold maxLen at hma
  obtain ⟨hnb, hcb, hmb, r_b, hnilb, hwfb⟩ := hb
  have Hb := Lib.hid hnb
  have Wb := Lib.hid hwfb
  clear hnb hwfb
  unfold maxLen at hmb
  have Wevery : Hid (I64 every) := bounds_i64 hevery
  clear hevery
  by_cases ga : na ≤ 40
  case neg =>
    go_enter Try.func4, Try.ntmps4
    go_wp2_with fail
    refine (awake22 _).mono ?_
    rintro e w1 ⟨rfl, hb1⟩
    go_wp2_with fail
    go_ret
    exact Yes.of hb1
  by_cases gb : nb ≤ 130
  case neg =>
    go_enter Try.func4, Try.ntmps4
    go_wp2_with fail
    refine (awake22 _).mono ?_
    rintro e w1 ⟨rfl, hb1⟩
    go_wp2_with fail
    go_ret
    exact Yes.of hb1
  go_enter Try.func4, Try.ntmps4
  go_wp2_with fail
  refine (awake22 _).mono ?_
  rintro e w1 ⟨rfl, hb⟩
  have B := below_go (Below.refl _ _) hb
  replace r_a := r_a.below B
  replace r_b := r_b.below B
  have bb := B
  clear B hb
  go_wp2_with fail
  refine (few_any _ na _ a 4 _ Ha.out (by omega) (by decide) (by decide) r_a).mono ?_
  rintro e w2 ⟨v, rfl, hv, hb⟩
  have Hx : Hid ((few 4 a).length = na) := by show _ = _; rw [few_length, Ha.out]
  have Wx := Lib.hid (few_wf 4 (by decide) (by decide) a)
  rw [Hx.out] at hv
  clear r_a
  replace r_b := r_b.below hb
  replace bb := below_go bb hb
  clear hb
  obtain ⟨V_x, c_x, rfl, hq_x, hx_x, r_x, hnil_x⟩ := own_slice hv
  clear hv
  generalize few 4 a = x at *
  go_wp2_with fail
  refine (few_any _ nb _ b 4 _ Hb.out (by omega) (by decide) (by decide) r_b).mono ?_
  rintro e w3 ⟨v, rfl, hv, hb⟩
  have Hy : Hid ((few 4 b).length = nb) := by show _ = _; rw [few_length, Hb.out]
  have Wy := Lib.hid (few_wf 4 (by decide) (by decide) b)
  rw [Hy.out] at hv
  clear r_b
  replace r_x := r_x.below hb
  replace bb := below_go bb hb
  clear hb
  obtain ⟨V_y, c_y, rfl, hq_y, hx_y, r_y, hnil_y⟩ := own_slice hv
  clear hv
  generalize few 4 b = y at *
  obtain ⟨SN, hSN, hSl⟩ := steps_small (n := na) (m := nb) (by omega) (by omega)
  have hLl := way_len x y na nb Hx.out
  obtain ⟨WL, hWL⟩ : ∃ WL, wayL x y na nb = WL := ⟨_, rfl⟩
  have HWL := Lib.hid hWL
  rw [hWL] at hLl
  obtain ⟨Lc, hLc⟩ : ∃ Lc, WL.length = Lc := ⟨_, rfl⟩
  have HLc := Lib.hid hLc
  rw [hLc] at hLl
  obtain ⟨SW, hSW⟩ : ∃ SW : Int, (SN : Int) = SW := ⟨_, rfl⟩
  have hSl2 : 0 ≤ SW ∧ SW ≤ 17179869184 := by omega
  obtain ⟨hS1, hS2⟩ := hSl2
  have HSt : Hid (stepsW (na : Int) (nb : Int) = SW) := hSN.trans hSW
  have HSW : Hid (2 * stepsW (na : Int) (nb : Int) = 2 * SW) := by show _ = _; rw [HSt.out]
  clear hWL hLc hSN hSW hSl
  by_cases hok : (kind = 0 ∨ kind = 1) ∧ 1 ≤ every
  · have HOK := Lib.hid hok.2
    have he1 : ¬ (every < 1) := by omega
    obtain ⟨hkd, _⟩ := hok
    rcases hkd with rfl | rfl
    · go_wp2_with fail
      refine (wrun_w 0 every V_x V_y na nb c_x c_y x y WL (2 * SW) _ Hx.out Hy.out (by omega) (by omega) hq_x Wevery.out r_x r_y Wx.out Wy.out ⟨.inl rfl, HOK.out⟩ HWL.out HSW.out).mono ?_
      rintro e w4 ⟨v, rfl, hv, hb⟩
      rw [HLc.out] at hv
      obtain ⟨V_l, c_l, rfl, _, _, r_l, _⟩ := own_sliceS hv
      clear hv
      have B := below_go (Below.refl _ _) hb
      replace r_x := r_x.below B
      replace r_y := r_y.below B
      replace bb := below_go bb B
      clear B hb
      go_wp2_with fail
      refine (rway_any V_x V_y na nb c_x c_y x y _ Hx.out Hy.out (by omega) (by omega) r_x r_y).mono ?_
      rintro e w5 ⟨v, rfl, hv, hb⟩
      rw [HWL.out, HLc.out] at hv
      obtain ⟨V_t, c_t, rfl, _, _, r_t, _⟩ := own_sliceS hv
      clear hv
      have B := below_go (Below.refl _ _) hb
      replace r_x := r_x.below B
      replace r_y := r_y.below B
      replace r_l := r_l.below B
      replace bb := below_go bb B
      clear B hb
      clear r_x
      clear r_y
      go_wp2_with fail
      refine (samePairs_any V_l V_t Lc Lc c_l c_t WL WL _ HLc.out HLc.out (by omega) r_l r_t).mono ?_
      rintro e w6 ⟨rfl, q, hq⟩
      have hb := below_of hq
      clear hq
      have B := below_go (Below.refl _ _) hb
      replace r_l := r_l.below B
      replace r_t := r_t.below B
      replace bb := below_go bb B
      clear B hb
      rw [show decide (WL = WL) = true by simp]
      clear r_l
      clear r_t
      go_wp2_with fail
      refine (rsteps_any (na : Int) (nb : Int) _).mono ?_
      rintro e w7 ⟨rfl, e0⟩
      have hb := below_same e0
      clear e0
      have B := below_go (Below.refl _ _) hb
      replace bb := below_go bb B
      clear B hb
      rw [HSt.out]
      go_wp2_with fail
      go_ret
      exact Yes.of bb
    · go_wp2_with fail
      refine (wrun_w 1 every V_x V_y na nb c_x c_y x y WL (2 * SW) _ Hx.out Hy.out (by omega) (by omega) hq_x Wevery.out r_x r_y Wx.out Wy.out ⟨.inr rfl, HOK.out⟩ HWL.out HSW.out).mono ?_
      rintro e w4 ⟨v, rfl, hv, hb⟩
      rw [HLc.out] at hv
      obtain ⟨V_l, c_l, rfl, _, _, r_l, _⟩ := own_sliceS hv
      clear hv
      have B := below_go (Below.refl _ _) hb
      replace r_x := r_x.below B
      replace r_y := r_y.below B
      replace bb := below_go bb B
      clear B hb
      go_wp2_with fail
      refine (rway_any V_x V_y na nb c_x c_y x y _ Hx.out Hy.out (by omega) (by omega) r_x r_y).mono ?_
      rintro e w5 ⟨v, rfl, hv, hb⟩
      rw [HWL.out, HLc.out] at hv
      obtain ⟨V_t, c_t, rfl, _, _, r_t, _⟩ := own_sliceS hv
      clear hv
      have B := below_go (Below.refl _ _) hb
      replace r_x := r_x.below B
      replace r_y := r_y.below B
      replace r_l := r_l.below B
      replace bb := below_go bb B
      clear B hb
      clear r_x
      clear r_y
      go_wp2_with fail
      refine (samePairs_any V_l V_t Lc Lc c_l c_t WL WL _ HLc.out HLc.out (by omega) r_l r_t).mono ?_
      rintro e w6 ⟨rfl, q, hq⟩
      have hb := below_of hq
      clear hq
      have B := below_go (Below.refl _ _) hb
      replace r_l := r_l.below B
      replace r_t := r_t.below B
      replace bb := below_go bb B
      clear B hb
      rw [show decide (WL = WL) = true by simp]
      clear r_l
      clear r_t
      go_wp2_with fail
      refine (rsteps_any (na : Int) (nb : Int) _).mono ?_
      rintro e w7 ⟨rfl, e0⟩
      have hb := below_same e0
      clear e0
      have B := below_go (Below.refl _ _) hb
      replace bb := below_go bb B
      clear B hb
      rw [HSt.out]
      go_wp2_with fail
      go_ret
      exact Yes.of bb
  · have HNO := Lib.hid hok
    have hcs : (kind = 0 ∧ every < 1) ∨ (kind = 1 ∧ every < 1) ∨ ((kind != 0) = true ∧ (kind != 1) = true) := by
      simp only [bne_iff_ne]
      omega
    clear hok
    rcases hcs with ⟨rfl, h1⟩ | ⟨rfl, h1⟩ | ⟨h1, h2⟩
    · have HN1 := Lib.hid h1
      go_wp2_with fail
      refine (wrun_none 0 every V_x V_y na nb c_x c_y _ (fun h => by have := HN1.out; omega)).mono ?_
      rintro e w4 ⟨rfl, e0⟩
      have hb := below_same e0.symm
      clear e0
      have B := below_go (Below.refl _ _) hb
      replace r_x := r_x.below B
      replace r_y := r_y.below B
      replace bb := below_go bb B
      clear B hb
      go_wp2_with fail
      all_goals (go_ret; exact Yes.of bb)
    · have HN1 := Lib.hid h1
      go_wp2_with fail
      refine (wrun_none 1 every V_x V_y na nb c_x c_y _ (fun h => by have := HN1.out; omega)).mono ?_
      rintro e w4 ⟨rfl, e0⟩
      have hb := below_same e0.symm
      clear e0
      have B := below_go (Below.refl _ _) hb
      replace r_x := r_x.below B
      replace r_y := r_y.below B
      replace bb := below_go bb B
      clear B hb
      go_wp2_with fail
      all_goals (go_ret; exact Yes.of bb)
    · go_wp2_with fail
      refine (wrun_none kind every V_x V_y na nb c_x c_y _ HNO.out).mono ?_
      rintro e w4 ⟨rfl, e0⟩
      have hb := below_same e0.symm
      clear e0
      have B := below_go (Below.refl _ _) hb
      replace r_x := r_x.below B
      replace r_y := r_y.below B
      replace bb := below_go bb B
      clear B hb
      go_wp2_with fail
      all_goals (go_ret; exact Yes.of bb)

/-! ### The row's step -/
theorem own : ownKnob Try.prog.godebug = none := by kernel_rfl
theorem laidOut : laidOutB Try.prog = true := by kernel_rfl

set_option maxRecDepth 100000 in
theorem contract (H : Type) (enc : TypeId × Value → H) (W : World) (base : Nat) (args : Array Value) (ds gs : List (DataW H)) (before : List MemPlace)
    (hval : ∀ (j : Nat) t v, Try.f4.params[j]? = some t → args[j]? = some v → Value.okWide Try.prog W .any base t v)
    (hW : DataW.Whole enc Try.prog Try.f4.params.toList Rows.walkRunsSpec.vars false W args.toList ds gs before) :
    Calls Try.prog 4 args W fun e W' => ∃ v, e = .returned v ∧ Rows.walkRunsSpec.post enc Try.prog Try.f4 false true false false W args v W' := by
  have hW' := hW
  obtain ⟨p, q, hA0, hV, rfl, hfz, hnd⟩ := hW
  have hA : DataW.TrodAll enc Try.prog W 0 (fun _ => true) true Try.f4.params.toList args.toList ds p := hA0
  rw [Try.params4] at hA hval
  obtain ⟨v0, vs0, d0, ds0, p0, q0, hargs, rfl, rfl, h0, r0⟩ := trodAll_cons hA
  obtain ⟨v1, vs1, d1, ds1, p1, q1, rfl, rfl, rfl, h1, r1⟩ := trodAll_cons r0
  obtain ⟨v2, vs2, d2, ds2, p2, q2, rfl, rfl, rfl, h2, r2⟩ := trodAll_cons r1
  obtain ⟨v3, vs3, d3, ds3, p3, q3, rfl, rfl, rfl, h3, r3⟩ := trodAll_cons r2
  obtain ⟨rfl, rfl, rfl⟩ := trodAll_nil r3
  obtain rfl : args = #[v0, v1, v2, v3] := by cases args; simp_all
  obtain ⟨rfl, rfl⟩ := trodVars_none hV
  have k0 := h0
  have lt0 : ∀ x ∈ p0, x.block < W.heap.size := by obtain ⟨m, hm⟩ := k0; exact DataW.trod_lt m _ _ _ hm
  obtain ⟨a0, e0, _, _, w0⟩ := open_int Try.underlying3 (hval 0 3 v0 rfl rfl) h0
  subst e0
  have k1 := h1
  have lt1 : ∀ x ∈ p1, x.block < W.heap.size := by obtain ⟨m, hm⟩ := k1; exact DataW.trod_lt m _ _ _ hm
  obtain ⟨A1, n1, c1, e1⟩ := okWide_slice Try.underlying26 (hval 1 26 v1 rfl rfl)
  subst e1
  obtain ⟨l1, w1⟩ := open_argI Try.underlying26 Try.underlying3 (by kernel_rfl) h1
  have k2 := h2
  have lt2 : ∀ x ∈ p2, x.block < W.heap.size := by obtain ⟨m, hm⟩ := k2; exact DataW.trod_lt m _ _ _ hm
  obtain ⟨A2, n2, c2, e2⟩ := okWide_slice Try.underlying26 (hval 2 26 v2 rfl rfl)
  subst e2
  obtain ⟨l2, w2⟩ := open_argI Try.underlying26 Try.underlying3 (by kernel_rfl) h2
  have k3 := h3
  have lt3 : ∀ x ∈ p3, x.block < W.heap.size := by obtain ⟨m, hm⟩ := k3; exact DataW.trod_lt m _ _ _ hm
  obtain ⟨a3, e3, _, _, w3⟩ := open_int Try.underlying3 (hval 3 3 v3 rfl rfl) h3
  subst e3
  clear hA0
  refine (walkRuns_walk a0 A1 n1 c1 l1 A2 n2 c2 l2 a3 W w0 w1 w2 w3).mono fun e W' ⟨he, bel⟩ => ?_
  subst he
  exact ⟨_, rfl, _, _, _, [], _, [], hW', trodAll_mk1 (shut_bool Try.underlying4 _), (trodAll_cons_mk (Below.trod laidOut (by kernel_rfl) (of_decide_eq_true (by kernel_rfl)) k0 bel lt0) (trodAll_cons_mk (Below.trod laidOut (by kernel_rfl) (of_decide_eq_true (by kernel_rfl)) k1 bel lt1) (trodAll_cons_mk (Below.trod laidOut (by kernel_rfl) (of_decide_eq_true (by kernel_rfl)) k2 bel lt2) (trodAll_cons_mk (Below.trod laidOut (by kernel_rfl) (of_decide_eq_true (by kernel_rfl)) k3 bel lt3) trodAll_mk0)))), rfl, bel.frame _, fun h => by cases h⟩

set_option maxRecDepth 100000 in
theorem lifted (os : Os) (started : os.Started) (H : Type) (enc : TypeId × Value → H) :
    ReturnsInHanded {} Try.checked os 4 .any (Rows.walkRunsSpec.pre6 enc Try.prog Try.f4 Rows.walkRunsRow.domain false) (Rows.walkRunsSpec.post enc Try.prog Try.f4 false true false false) := by
  refine returnsInHanded_of_change (C := Try.checked) own started (by kernel_rfl) Try.func4
    (ChangeSpec.witness6 (enc := enc) (C := Try.checked) false ⟨#[], #[.int .i64 0, .slice none 0 0, .slice none 0 0, .int .i64 0], []⟩ 8 (by kernel_rfl) (by kernel_rfl) (by kernel_rfl) (by kernel_rfl)) ?_
  intro W base args ds gs before hval hW _ _
  exact contract H enc W base args ds gs before hval hW

/-- The statement. -/
theorem proved : Rows.WalkRunsSaid :=
  OpenClaim.holds_of_wide 4 Try.f4 rfl rfl rfl rfl rfl rfl rfl ⟨rfl, rfl, rfl, rfl, rfl⟩ rfl rfl rfl rfl rfl (by kernel_rfl) Try.func4 (by kernel_rfl)
    (of_decide_eq_true (by kernel_rfl)) (by unfold Func.isWrapper; first | (rw [if_pos (by decide +kernel)]; kernel_rfl) | (rw [if_neg (by decide +kernel)]; exact ⟨rfl, rfl⟩))
    (fun os started H enc _ => lifted os started H enc)

end Go.Proofs.Ytncbhnmhaoblaaa.walkRunsP
