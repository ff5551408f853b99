/-
  Proved: for every input tattinglaw23.CanonSides returns true, and its arguments read afterwards as before.
-/
import Derived.Test.YtejpbjglfjhjkaaM24
import Derived.Test.YtejpbjglfjhjkaaM26
import Derived.Test.YtejpbjglfjhjkaaM27
import Derived.Test.YtejpbjglfjhjkaaM3
namespace Go.Proofs.Ytejpbjglfjhjkaa.canonSidesP
open Go.ChangeShapes Go.WideShapes Go.ChangeAt Go.RowKit
open Go.ChangeMaps (open_string shut_string)

set_option maxRecDepth 100000 in
set_option maxHeartbeats 1600000 in
theorem canonSides_walk (Aa : Option Addr) (na ca : Nat) (a : List Int) (Ab : Option Addr) (nb cb : Nat) (b : List Int) (Al : Option Addr) (nl cl : Nat) (l : List Pr) (w : World) (ha : ArgI w Aa na ca a) (hb : ArgI w Ab nb cb b) (hl : ArgP w Al nl cl l) :
    Calls Try.prog 5 #[.slice Aa na ca, .slice Ab nb cb, .slice Al nl cl] w (Yes w) := by
  obtain ⟨hna, hca, hma, r_a, hnila, hwfa⟩ := ha
  have Ha := Lib.hid hna
  have Wa := Lib.hid hwfa
  clear hna hwfa
  unfold maxLen at hma
  obtain ⟨hnb, hcb, hmb, r_b, hnilb, hwfb⟩ := hb
  have Hb := Lib.hid hnb
  have Wb := Lib.hid hwfb
  clear hnb hwfb
  unfold maxLen at hmb
  obtain ⟨hnl, hcl, hml, r_l, hnill, hwfl⟩ := hl
  have Hl := Lib.hid hnl
  have Wl := Lib.hid hwfl
  clear hnl hwfl
  unfold maxLen at hml
  by_cases ga : na ≤ 30
  case neg =>
    go_enter Try.func5, Try.ntmps5
    go_wp2_with fail
    refine (awake23 _).mono ?_
    rintro e w1 ⟨rfl, hb1⟩
    go_wp2_with fail
    go_ret
    exact Yes.of hb1
  by_cases gb : nb ≤ 30
  case neg =>
    go_enter Try.func5, Try.ntmps5
    go_wp2_with fail
    refine (awake23 _).mono ?_
    rintro e w1 ⟨rfl, hb1⟩
    go_wp2_with fail
    go_ret
    exact Yes.of hb1
  by_cases gl : nl ≤ 30
  case neg =>
    go_enter Try.func5, Try.ntmps5
    go_wp2_with fail
    refine (awake23 _).mono ?_
    rintro e w1 ⟨rfl, hb1⟩
    go_wp2_with fail
    go_ret
    exact Yes.of hb1
  go_enter Try.func5, Try.ntmps5
  go_wp2_with fail
  refine (awake23 _).mono ?_
  rintro e w1 ⟨rfl, hb⟩
  have B := below_go (Below.refl _ _) hb
  replace r_a := r_a.below B
  replace r_b := r_b.below B
  replace r_l := r_l.below B
  have bb := B
  clear B hb
  go_wp2_with fail
  refine (few_any _ na _ a 3 _ Ha.out (by omega) (by decide) (by decide) r_a).mono ?_
  rintro e w2 ⟨v, rfl, hv, hb⟩
  have B := below_go (Below.refl _ _) hb
  clear r_a
  replace r_b := r_b.below B
  replace r_l := r_l.below B
  replace bb := below_go bb B
  clear B hb
  have Hx : Hid ((few 3 a).length = na) := by show _ = _; rw [few_length, Ha.out]
  rw [Hx.out] at hv
  obtain ⟨V_x, c_x, rfl, hq_x, hm_x, r_x, hnil_x⟩ := own_slice hv
  clear hv
  generalize few 3 a = x at *
  go_wp2_with fail
  refine (few_any _ nb _ b 3 _ Hb.out (by omega) (by decide) (by decide) r_b).mono ?_
  rintro e w3 ⟨v, rfl, hv, hb⟩
  have B := below_go (Below.refl _ _) hb
  clear r_b
  replace r_l := r_l.below B
  replace r_x := r_x.below B
  replace bb := below_go bb B
  clear B hb
  have Hy : Hid ((few 3 b).length = nb) := by show _ = _; rw [few_length, Hb.out]
  rw [Hy.out] at hv
  obtain ⟨V_y, c_y, rfl, hq_y, hm_y, r_y, hnil_y⟩ := own_slice hv
  clear hv
  generalize few 3 b = y at *
  have hM := lftE_len x y l
  rw [Hl.out] at hM
  obtain ⟨M, r, eM⟩ : ∃ X r, lftE x y l = (X, r) := ⟨_, _, rfl⟩
  have HE := Lib.hid eM
  rw [eM] at hM
  replace hM : M.length ≤ nl := hM
  obtain ⟨NM, nM⟩ : ∃ N, M.length = N := ⟨_, rfl⟩
  have HM := Lib.hid nM
  rw [nM] at hM
  clear eM nM
  have tM : (r == r) = true := by simp
  have hO := topE_len x y l
  rw [Hl.out] at hO
  obtain ⟨O, s, eO⟩ : ∃ X r, topE x y l = (X, r) := ⟨_, _, rfl⟩
  have HF := Lib.hid eO
  rw [eO] at hO
  replace hO : O.length ≤ nl := hO
  obtain ⟨NO, nO⟩ : ∃ N, O.length = N := ⟨_, rfl⟩
  have HO := Lib.hid nO
  rw [nO] at hO
  clear eO nO
  have tO : (s == s) = true := by simp
  go_wp2_with fail
  refine (pleft_w _ _ _ na nb nl _ _ _ x y l M r _ (HE.out) Hx.out Hy.out Hl.out (by omega) (by omega) (by omega)  r_x r_y r_l).mono ?_
  rintro e w4 ⟨v, rfl, hv, hb⟩
  rw [HM.out] at hv
  obtain ⟨V_m, c_m, rfl, _, _, r_m, _⟩ := own_sliceS hv
  clear hv
  have B := below_go (Below.refl _ _) hb
  replace r_l := r_l.below B
  replace r_x := r_x.below B
  replace r_y := r_y.below B
  replace bb := below_go bb B
  clear B hb
  go_wp2_with fail
  refine (rleft_w _ _ _ na nb nl _ _ _ x y l M r _ (HE.out) Hx.out Hy.out Hl.out (by omega) (by omega)  r_x r_y r_l).mono ?_
  rintro e w5 ⟨v, rfl, hv, hb⟩
  rw [HM.out] at hv
  obtain ⟨V_n, c_n, rfl, _, _, r_n, _⟩ := own_sliceS hv
  clear hv
  have B := below_go (Below.refl _ _) hb
  replace r_l := r_l.below B
  replace r_x := r_x.below B
  replace r_y := r_y.below B
  replace r_m := r_m.below B
  replace bb := below_go bb B
  clear B hb
  go_wp2_with fail
  refine (ptop_w _ _ _ na nb nl _ _ _ x y l O s _ (HF.out) Hx.out Hy.out Hl.out (by omega) (by omega) (by omega)  r_x r_y r_l).mono ?_
  rintro e w6 ⟨v, rfl, hv, hb⟩
  rw [HO.out] at hv
  obtain ⟨V_o, c_o, rfl, _, _, r_o, _⟩ := own_sliceS hv
  clear hv
  have B := below_go (Below.refl _ _) hb
  replace r_l := r_l.below B
  replace r_x := r_x.below B
  replace r_y := r_y.below B
  replace r_m := r_m.below B
  replace r_n := r_n.below B
  replace bb := below_go bb B
  clear B hb
  go_wp2_with fail
  refine (rtop_w _ _ _ na nb nl _ _ _ x y l O s _ (HF.out) Hx.out Hy.out Hl.out (by omega) (by omega)  r_x r_y r_l).mono ?_
  rintro e w7 ⟨v, rfl, hv, hb⟩
  rw [HO.out] at hv
  obtain ⟨V_p, c_p, rfl, _, _, r_p, _⟩ := own_sliceS hv
  clear hv
  have B := below_go (Below.refl _ _) hb
  clear r_l
  clear r_x
  clear r_y
  replace r_m := r_m.below B
  replace r_n := r_n.below B
  replace r_o := r_o.below B
  replace bb := below_go bb B
  clear B hb
  go_wp2_with fail
  refine (samePairs_any _ _ NM NM _ _ M M _ HM.out HM.out (by omega) r_m r_n).mono ?_
  rintro e w8 ⟨rfl, q, hq⟩
  have hb := below_of hq
  clear hq
  have B := below_go (Below.refl _ _) hb
  clear r_m
  clear r_n
  replace r_o := r_o.below B
  replace r_p := r_p.below B
  replace bb := below_go bb B
  clear B hb
  rw [show decide (M = M) = true by simp]
  go_wp2_with fail
  refine (samePairs_any _ _ NO NO _ _ O O _ HO.out HO.out (by omega) r_o r_p).mono ?_
  rintro e w9 ⟨rfl, q, hq⟩
  have hb := below_of hq
  clear hq
  have B := below_go (Below.refl _ _) hb
  clear r_o
  clear r_p
  replace bb := below_go bb B
  clear B hb
  rw [show decide (O = O) = true by simp]
  go_wp2_with fail
  go_ret
  exact Yes.of bb

/-! ### The row's step -/
theorem own : ownKnob Try.prog.godebug = none := by kernel_rfl
theorem laidOut : laidOutB Try.prog = true := by kernel_rfl

set_option maxRecDepth 100000 in
theorem contract (H : Type) (enc : TypeId × Value → H) (W : World) (base : Nat) (args : Array Value) (ds gs : List (DataW H)) (before : List MemPlace)
    (hval : ∀ (j : Nat) t v, Try.f5.params[j]? = some t → args[j]? = some v → Value.okWide Try.prog W .any base t v)
    (hW : DataW.Whole enc Try.prog Try.f5.params.toList Rows.canonSidesSpec.vars false W args.toList ds gs before) :
    Calls Try.prog 5 args W fun e W' => ∃ v, e = .returned v ∧ Rows.canonSidesSpec.post enc Try.prog Try.f5 false true false false W args v W' := by
  have hW' := hW
  obtain ⟨p, q, hA0, hV, rfl, hfz, hnd⟩ := hW
  have hA : DataW.TrodAll enc Try.prog W 0 (fun _ => true) true Try.f5.params.toList args.toList ds p := hA0
  rw [Try.params5] at hA hval
  obtain ⟨v0, vs0, d0, ds0, p0, q0, hargs, rfl, rfl, h0, r0⟩ := trodAll_cons hA
  obtain ⟨v1, vs1, d1, ds1, p1, q1, rfl, rfl, rfl, h1, r1⟩ := trodAll_cons r0
  obtain ⟨v2, vs2, d2, ds2, p2, q2, rfl, rfl, rfl, h2, r2⟩ := trodAll_cons r1
  obtain ⟨rfl, rfl, rfl⟩ := trodAll_nil r2
  obtain rfl : args = #[v0, v1, v2] := by cases args; simp_all
  obtain ⟨rfl, rfl⟩ := trodVars_none hV
  have k0 := h0
  have lt0 : ∀ x ∈ p0, x.block < W.heap.size := by obtain ⟨m, hm⟩ := k0; exact DataW.trod_lt m _ _ _ hm
  obtain ⟨A0, n0, c0, e0⟩ := okWide_slice Try.underlying26 (hval 0 26 v0 rfl rfl)
  subst e0
  obtain ⟨l0, w0⟩ := open_argI Try.underlying26 Try.underlying3 (by kernel_rfl) h0
  have k1 := h1
  have lt1 : ∀ x ∈ p1, x.block < W.heap.size := by obtain ⟨m, hm⟩ := k1; exact DataW.trod_lt m _ _ _ hm
  obtain ⟨A1, n1, c1, e1⟩ := okWide_slice Try.underlying26 (hval 1 26 v1 rfl rfl)
  subst e1
  obtain ⟨l1, w1⟩ := open_argI Try.underlying26 Try.underlying3 (by kernel_rfl) h1
  have k2 := h2
  have lt2 : ∀ x ∈ p2, x.block < W.heap.size := by obtain ⟨m, hm⟩ := k2; exact DataW.trod_lt m _ _ _ hm
  obtain ⟨A2, n2, c2, e2⟩ := okWide_slice Try.underlying22 (hval 2 22 v2 rfl rfl)
  subst e2
  obtain ⟨l2, w2⟩ := open_argP Try.underlying22 Try.underlying28 (by kernel_rfl) rfl rfl (by kernel_rfl) (by kernel_rfl) Try.underlying3 Try.underlying3 h2
  clear hA0
  refine (canonSides_walk A0 n0 c0 l0 A1 n1 c1 l1 A2 n2 c2 l2 W w0 w1 w2).mono fun e W' ⟨he, bel⟩ => ?_
  subst he
  exact ⟨_, rfl, _, _, _, [], _, [], hW', trodAll_mk1 (shut_bool Try.underlying4 _), (trodAll_cons_mk (Below.trod laidOut (by kernel_rfl) (of_decide_eq_true (by kernel_rfl)) k0 bel lt0) (trodAll_cons_mk (Below.trod laidOut (by kernel_rfl) (of_decide_eq_true (by kernel_rfl)) k1 bel lt1) (trodAll_cons_mk (Below.trod laidOut (by kernel_rfl) (of_decide_eq_true (by kernel_rfl)) k2 bel lt2) trodAll_mk0))), rfl, bel.frame _, fun h => by cases h⟩

set_option maxRecDepth 100000 in
theorem lifted (os : Os) (started : os.Started) (H : Type) (enc : TypeId × Value → H) :
    ReturnsInHanded {} Try.checked os 5 .any (Rows.canonSidesSpec.pre6 enc Try.prog Try.f5 Rows.canonSidesRow.domain false) (Rows.canonSidesSpec.post enc Try.prog Try.f5 false true false false) := by
  refine returnsInHanded_of_change (C := Try.checked) own started (by kernel_rfl) Try.func5
    (ChangeSpec.witness6 (enc := enc) (C := Try.checked) false ⟨#[], #[.slice none 0 0, .slice none 0 0, .slice none 0 0], []⟩ 8 (by kernel_rfl) (by kernel_rfl) (by kernel_rfl) (by kernel_rfl)) ?_
  intro W base args ds gs before hval hW _ _
  exact contract H enc W base args ds gs before hval hW

/-- The statement. -/
theorem proved : Rows.CanonSidesSaid :=
  OpenClaim.holds_of_wide 5 Try.f5 rfl rfl rfl rfl rfl rfl rfl ⟨rfl, rfl, rfl, rfl, rfl⟩ rfl rfl rfl rfl rfl (by kernel_rfl) Try.func5 (by kernel_rfl)
    (of_decide_eq_true (by kernel_rfl)) (by unfold Func.isWrapper; first | (rw [if_pos (by decide +kernel)]; kernel_rfl) | (rw [if_neg (by decide +kernel)]; exact ⟨rfl, rfl⟩))
    (fun os started H enc _ => lifted os started H enc)

end Go.Proofs.Ytejpbjglfjhjkaa.canonSidesP
