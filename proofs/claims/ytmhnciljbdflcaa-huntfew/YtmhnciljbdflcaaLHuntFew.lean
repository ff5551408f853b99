/-
  Proved: for every input tattinglaw16.HuntFew returns true, and its arguments read afterwards as before.
-/
import Derived.Test.YtmhnciljbdflcaaM28
import Derived.Test.YtmhnciljbdflcaaM30
namespace Go.Proofs.Ytmhnciljbdflcaa.huntFewP
open Go.ChangeShapes Go.WideShapes Go.ChangeAt Go.RowKit
open Go.ChangeMaps (open_string shut_string)

set_option maxRecDepth 100000 in
set_option maxHeartbeats 3200000 in
theorem huntFew_walk (Aa : Option Addr) (na ca : Nat) (a : List Int) (Ab : Option Addr) (nb cb : Nat) (b : List Int) (w : World) (ha : ArgI w Aa na ca a) (hb : ArgI w Ab nb cb b) :
    Calls Try.prog 7 #[.slice Aa na ca, .slice Ab nb cb] w (Yes w) := by
  obtain ⟨hna, hca, hma, r_a, hnila, hwfa⟩ := ha
  have Ha := Lib.hid hna
  have Wa := Lib.hid hwfa
  clear hna hwfa
  unfold maxLen at hma
  obtain ⟨hnb, hcb, hmb, r_b, hnilb, hwfb⟩ := hb
  have Hb := Lib.hid hnb
  have Wb := Lib.hid hwfb
  clear hnb hwfb
  unfold maxLen at hmb
  by_cases h0 : na = 0
  case pos =>
    subst h0
    go_enter Try.func7, Try.ntmps7
    go_wp2_with fail
    refine (awake16 _).mono ?_
    rintro e w1 ⟨rfl, hb1⟩
    go_wp2_with fail
    go_ret
    exact Yes.of hb1
  have z0 : ((na : Int) == 0) = false := by simp; omega
  by_cases ga : na ≤ 30
  case neg =>
    go_enter Try.func7, Try.ntmps7
    go_wp2_with fail
    refine (awake16 _).mono ?_
    rintro e w1 ⟨rfl, hb1⟩
    go_wp2_with fail
    go_ret
    exact Yes.of hb1
  by_cases gb : nb ≤ 30
  case neg =>
    go_enter Try.func7, Try.ntmps7
    go_wp2_with fail
    refine (awake16 _).mono ?_
    rintro e w1 ⟨rfl, hb1⟩
    go_wp2_with fail
    go_ret
    exact Yes.of hb1
  go_enter Try.func7, Try.ntmps7
  go_wp2_with fail
  refine (awake16 _).mono ?_
  rintro e w1 ⟨rfl, hb⟩
  have B := below_go (Below.refl _ _) hb
  replace r_a := r_a.below B
  replace r_b := r_b.below B
  have bb := B
  clear B hb
  go_wp2_with fail
  refine (few_any _ na _ a 4 _ Ha.out (by omega) (by decide) (by decide) r_a).mono ?_
  rintro e w2 ⟨v, rfl, hv, hb⟩
  have Hx : Hid ((few 4 a).length = na) := by show _ = _; rw [few_length, Ha.out]
  have Wx := Lib.hid (few_wfN (n := 4) (by decide) (by decide) a)
  rw [Hx.out] at hv
  clear r_a
  replace r_b := r_b.below hb
  replace bb := below_go bb hb
  clear hb
  obtain ⟨V_x, c_x, rfl, hq_x, hx_x, r_x, hnil_x⟩ := own_slice hv
  clear hv
  generalize few 4 a = x at *
  go_wp2_with fail
  refine (few_any _ nb _ b 4 _ Hb.out (by omega) (by decide) (by decide) r_b).mono ?_
  rintro e w3 ⟨v, rfl, hv, hb⟩
  have Hy : Hid ((few 4 b).length = nb) := by show _ = _; rw [few_length, Hb.out]
  have Wy := Lib.hid (few_wfN (n := 4) (by decide) (by decide) b)
  rw [Hy.out] at hv
  clear r_b
  replace r_x := r_x.below hb
  replace bb := below_go bb hb
  clear hb
  obtain ⟨V_y, c_y, rfl, hq_y, hx_y, r_y, hnil_y⟩ := own_slice hv
  clear hv
  generalize few 4 b = y at *
  go_wp2_with fail
  refine (hrun_any _ _ na nb _ _ x y _ Hx.out Hy.out (by omega) (by omega) r_x r_y Wx.out Wy.out).mono ?_
  rintro e w4 ⟨v, l, rfl, ⟨hG, hL⟩, hv, hb⟩
  have B := below_go (Below.refl _ _) hb
  replace r_x := r_x.below B
  replace r_y := r_y.below B
  replace bb := below_go bb B
  clear B hb
  have HGR := Lib.hid hG
  have HLR := Lib.hid hL
  rw [hL] at hv
  obtain ⟨V_R, c_R, rfl, _, _, r_R, _⟩ := own_sliceS hv
  clear hv hG hL
  generalize l = R at *
  clear r_R
  obtain ⟨Lc, hLc⟩ : ∃ Lc, lcs x y = Lc := ⟨_, rfl⟩
  obtain ⟨N, hN⟩ : ∃ N, alike x y = N := ⟨_, rfl⟩
  obtain ⟨M, hM⟩ : ∃ M, lcs (x.drop 1) y = M := ⟨_, rfl⟩
  obtain ⟨D, hD⟩ : ∃ D, alike (x.drop 1) y = D := ⟨_, rfl⟩
  obtain ⟨E, hE⟩ : ∃ E, alike (x.take 1) y = E := ⟨_, rfl⟩
  obtain ⟨P, hP⟩ : ∃ P, na * nb = P := ⟨_, rfl⟩
  have hPle : P ≤ 30 * 30 := by rw [← hP]; exact Nat.mul_le_mul (by omega) (by omega)
  have f1 : N ≤ P := by rw [← hN, ← hP, ← Hx.out, ← Hy.out]; exact alike_prod x y
  have f2 : Lc ≤ N := by rw [← hLc, ← hN]; exact lcs_alike x y
  have f3 : N = E + D := by rw [← hN, ← hE, ← hD]; exact alike_drop Hx.out h0
  have f4 : M ≤ Lc := by rw [← hM, ← hLc]; exact lcs_drop Hx.out h0
  have hPi : (na : Int) * (nb : Int) = (P : Int) := by rw [← hP]; exact (Int.natCast_mul na nb).symm
  have hPw : IntKind.i64.wrap (P : Int) = (P : Int) := IntWalk.i64_in _ (by omega)
  have hND : (N : Int) - (D : Int) = (E : Int) := by omega
  have HM := Lib.hid hM
  have HD := Lib.hid hD
  have HE := Lib.hid hE
  rw [hLc, hN]
  clear hLc hN hM hD hE hP
  obtain ⟨A1, c1, s1, hc1, r1⟩ := slice_from _ na c_x 1 x w4 r_x Hx.out hq_x (by omega)
  replace s1 : ∀ w, (Instr.sliceAt 25 (.slice V_x na c_x) (some (.int .i64 1)) none none).run Try.prog w = .ok (.slice A1 (na - 1) c1) w := s1
  have Wd := Lib.hid (fun z (hz : z ∈ x.drop 1) => Wx.out z (List.mem_of_mem_drop hz))
  go_wp2_with fail
  refine (hrun_any _ _ (na - 1) nb _ _ (x.drop 1) y _ (by rw [List.length_drop, Hx.out]) Hy.out (by omega) (by omega) r1 r_y Wd.out Wy.out).mono ?_
  rintro e w5 ⟨v, l, rfl, ⟨hG, hL⟩, hv, hb⟩
  have B := below_go (Below.refl _ _) hb
  replace r_x := r_x.below B
  replace r_y := r_y.below B
  replace r1 := r1.below B
  replace bb := below_go bb B
  clear B hb
  rw [hL, HM.out] at hv
  obtain ⟨_, _, rfl, _, _, _, _⟩ := own_sliceS hv
  clear hv hG
  rw [HD.out]
  clear hL s1
  clear r1
  obtain ⟨s2, r2⟩ := slice_to _ na c_x 1 x w5 r_x (by omega)
  replace s2 : ∀ w, (Instr.sliceAt 25 (.slice V_x na c_x) none (some (.int .i64 1)) none).run Try.prog w = .ok (.slice V_x 1 c_x) w := s2
  have q1 : decide ((N : Int) ≤ (P : Int)) = true := by simp; omega
  have q2 : decide ((Lc : Int) ≤ (N : Int)) = true := by simp; omega
  have q3 : decide ((D : Int) ≤ (N : Int)) = true := by simp; omega
  have q4 : decide ((M : Int) ≤ (Lc : Int)) = true := by simp; omega
  go_wp2_with fail
  refine (refAlike_any _ _ 1 nb _ _ (x.take 1) y _ (by rw [List.length_take, Hx.out]; omega) Hy.out (by omega) (by omega) r2 r_y).mono ?_
  rintro e w6 ⟨rfl, q, hq⟩
  have hb := below_of hq
  clear hq
  have B := below_go (Below.refl _ _) hb
  replace r_x := r_x.below B
  replace r_y := r_y.below B
  replace r2 := r2.below B
  replace bb := below_go bb B
  clear B hb
  rw [HE.out]
  clear s2
  go_wp2_with fail
  go_ret
  exact Yes.of bb

/-! ### The row's step -/
theorem own : ownKnob Try.prog.godebug = none := by kernel_rfl
theorem laidOut : laidOutB Try.prog = true := by kernel_rfl

set_option maxRecDepth 100000 in
theorem contract (H : Type) (enc : TypeId × Value → H) (W : World) (base : Nat) (args : Array Value) (ds gs : List (DataW H)) (before : List MemPlace)
    (hval : ∀ (j : Nat) t v, Try.f7.params[j]? = some t → args[j]? = some v → Value.okWide Try.prog W .any base t v)
    (hW : DataW.Whole enc Try.prog Try.f7.params.toList Rows.huntFewSpec.vars false W args.toList ds gs before) :
    Calls Try.prog 7 args W fun e W' => ∃ v, e = .returned v ∧ Rows.huntFewSpec.post enc Try.prog Try.f7 false true false false W args v W' := by
  have hW' := hW
  obtain ⟨p, q, hA0, hV, rfl, hfz, hnd⟩ := hW
  have hA : DataW.TrodAll enc Try.prog W 0 (fun _ => true) true Try.f7.params.toList args.toList ds p := hA0
  rw [Try.params7] at hA hval
  obtain ⟨v0, vs0, d0, ds0, p0, q0, hargs, rfl, rfl, h0, r0⟩ := trodAll_cons hA
  obtain ⟨v1, vs1, d1, ds1, p1, q1, rfl, rfl, rfl, h1, r1⟩ := trodAll_cons r0
  obtain ⟨rfl, rfl, rfl⟩ := trodAll_nil r1
  obtain rfl : args = #[v0, v1] := by cases args; simp_all
  obtain ⟨rfl, rfl⟩ := trodVars_none hV
  have k0 := h0
  have lt0 : ∀ x ∈ p0, x.block < W.heap.size := by obtain ⟨m, hm⟩ := k0; exact DataW.trod_lt m _ _ _ hm
  obtain ⟨A0, n0, c0, e0⟩ := okWide_slice Try.underlying25 (hval 0 25 v0 rfl rfl)
  subst e0
  obtain ⟨l0, w0⟩ := open_argI Try.underlying25 Try.underlying3 (by kernel_rfl) h0
  have k1 := h1
  have lt1 : ∀ x ∈ p1, x.block < W.heap.size := by obtain ⟨m, hm⟩ := k1; exact DataW.trod_lt m _ _ _ hm
  obtain ⟨A1, n1, c1, e1⟩ := okWide_slice Try.underlying25 (hval 1 25 v1 rfl rfl)
  subst e1
  obtain ⟨l1, w1⟩ := open_argI Try.underlying25 Try.underlying3 (by kernel_rfl) h1
  clear hA0
  refine (huntFew_walk A0 n0 c0 l0 A1 n1 c1 l1 W w0 w1).mono fun e W' ⟨he, bel⟩ => ?_
  subst he
  exact ⟨_, rfl, _, _, _, [], _, [], hW', trodAll_mk1 (shut_bool Try.underlying4 _), (trodAll_cons_mk (Below.trod laidOut (by kernel_rfl) (of_decide_eq_true (by kernel_rfl)) k0 bel lt0) (trodAll_cons_mk (Below.trod laidOut (by kernel_rfl) (of_decide_eq_true (by kernel_rfl)) k1 bel lt1) trodAll_mk0)), rfl, bel.frame _, fun h => by cases h⟩

set_option maxRecDepth 100000 in
theorem lifted (os : Os) (started : os.Started) (H : Type) (enc : TypeId × Value → H) :
    ReturnsInHanded {} Try.checked os 7 .any (Rows.huntFewSpec.pre6 enc Try.prog Try.f7 Rows.huntFewRow.domain false) (Rows.huntFewSpec.post enc Try.prog Try.f7 false true false false) := by
  refine returnsInHanded_of_change (C := Try.checked) own started (by kernel_rfl) Try.func7
    (ChangeSpec.witness6 (enc := enc) (C := Try.checked) false ⟨#[], #[.slice none 0 0, .slice none 0 0], []⟩ 8 (by kernel_rfl) (by kernel_rfl) (by kernel_rfl) (by kernel_rfl)) ?_
  intro W base args ds gs before hval hW _ _
  exact contract H enc W base args ds gs before hval hW

/-- The statement. -/
theorem proved : Rows.HuntFewSaid :=
  OpenClaim.holds_of_wide 7 Try.f7 rfl rfl rfl rfl rfl rfl rfl ⟨rfl, rfl, rfl, rfl, rfl⟩ rfl rfl rfl rfl rfl (by kernel_rfl) Try.func7 (by kernel_rfl)
    (of_decide_eq_true (by kernel_rfl)) (by unfold Func.isWrapper; first | (rw [if_pos (by decide +kernel)]; kernel_rfl) | (rw [if_neg (by decide +kernel)]; exact ⟨rfl, rfl⟩))
    (fun os started H enc _ => lifted os started H enc)

end Go.Proofs.Ytmhnciljbdflcaa.huntFewP
