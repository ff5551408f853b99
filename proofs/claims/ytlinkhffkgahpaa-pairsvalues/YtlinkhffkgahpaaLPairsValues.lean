/-
  Proved: for every input tattinglaw7.PairsValues returns true, and its arguments read afterwards as before.
-/
import Derived.Test.YtlinkhffkgahpaaAwake7
import Derived.Test.YtlinkhffkgahpaaArgsI
import Derived.Test.YtlinkhffkgahpaaArgsP
namespace Go.Proofs.Ytlinkhffkgahpaa.pairsValuesP
open Go.ChangeShapes Go.WideShapes Go.ChangeAt Go.RowKit
open Go.ChangeMaps (open_string shut_string)

set_option maxRecDepth 100000 in
set_option maxHeartbeats 1600000 in
theorem pairsValues_walk (Aa : Option Addr) (na ca : Nat) (a : List Int) (Ab : Option Addr) (nb cb : Nat) (b : List Int) (Al : Option Addr) (nl cl : Nat) (l : List Pr) (w : World) (ha : ArgI w Aa na ca a) (hb : ArgI w Ab nb cb b) (hl : ArgP w Al nl cl l) :
    Calls Try.prog 8 #[.slice Aa na ca, .slice Ab nb cb, .slice Al nl cl] w (Yes w) := by
  obtain ⟨hna, hca, hma, r_a, hnila, hwfa⟩ := ha
  have Ha := Lib.hid hna
  have Wa := Lib.hid hwfa
  clear hna hwfa
  unfold maxLen at hma
  obtain ⟨hnb, hcb, hmb, r_b, hnilb, hwfb⟩ := hb
  have Hb := Lib.hid hnb
  have Wb := Lib.hid hwfb
  clear hnb hwfb
  unfold maxLen at hmb
  obtain ⟨hnl, hcl, hml, r_l, hnill, hwfl⟩ := hl
  have Hl := Lib.hid hnl
  have Wl := Lib.hid hwfl
  clear hnl hwfl
  unfold maxLen at hml
  by_cases ga : na ≤ 40
  case neg =>
    go_enter Try.func8, Try.ntmps8
    go_wp2_with fail
    refine (awake7 _).mono ?_
    rintro e w1 ⟨rfl, hb1⟩
    go_wp2_with fail
    go_ret
    exact Yes.of hb1
  by_cases gb : nb ≤ 40
  case neg =>
    go_enter Try.func8, Try.ntmps8
    go_wp2_with fail
    refine (awake7 _).mono ?_
    rintro e w1 ⟨rfl, hb1⟩
    go_wp2_with fail
    go_ret
    exact Yes.of hb1
  by_cases gl : nl ≤ 40
  case neg =>
    go_enter Try.func8, Try.ntmps8
    go_wp2_with fail
    refine (awake7 _).mono ?_
    rintro e w1 ⟨rfl, hb1⟩
    go_wp2_with fail
    go_ret
    exact Yes.of hb1
  go_enter Try.func8, Try.ntmps8
  go_wp2_with fail
  refine (awake7 _).mono ?_
  rintro e w1 ⟨rfl, hb⟩
  have B := below_go (Below.refl _ _) hb
  replace r_a := r_a.below B
  replace r_b := r_b.below B
  replace r_l := r_l.below B
  have bb := B
  clear B hb
  have hx0 := vals_le a l
  rw [Hl.out] at hx0
  go_wp2_with fail
  refine (pvals _ _ _ _ _ _ a l _ Ha.out Hl.out (by omega) r_a r_l).mono ?_
  rintro e w2 ⟨v, rfl, hv, hb⟩
  have B := below_go (Below.refl _ _) hb
  replace r_a := r_a.below B
  replace r_b := r_b.below B
  replace r_l := r_l.below B
  replace bb := below_go bb B
  clear B hb
  obtain ⟨V_x, c_x, rfl, _, _, r_x, _⟩ := own_slice hv
  clear hv
  go_wp2_with fail
  refine (pturn _ _ _ _ _ Hl.out (by omega) r_l).mono ?_
  rintro e w3 ⟨v, rfl, hv, hb⟩
  have B := below_go (Below.refl _ _) hb
  replace r_a := r_a.below B
  replace r_b := r_b.below B
  replace r_l := r_l.below B
  replace r_x := r_x.below B
  replace bb := below_go bb B
  clear B hb
  obtain ⟨V_t, c_t, rfl, _, _, r_t, _⟩ := own_sliceS hv
  clear hv
  have Ht : Hid ((turnP l).length = nl) := by show _ = _; rw [turnP_length, Hl.out]
  rw [Ht.out]
  go_wp2_with fail
  refine (pvals _ _ _ _ _ _ b (turnP l) _ Hb.out Ht.out (by omega) r_b r_t).mono ?_
  rintro e w4 ⟨v, rfl, hv, hb⟩
  have B := below_go (Below.refl _ _) hb
  replace r_a := r_a.below B
  replace r_b := r_b.below B
  replace r_l := r_l.below B
  replace r_x := r_x.below B
  replace r_t := r_t.below B
  replace bb := below_go bb B
  clear B hb
  obtain ⟨V_y, c_y, rfl, _, _, r_y, _⟩ := own_slice hv
  clear hv
  clear r_t
  go_wp2_with fail
  refine (refVals _ _ _ _ _ _ a l _ Ha.out Hl.out (by omega) r_a r_l).mono ?_
  rintro e w5 ⟨v, rfl, hv, hb⟩
  have B := below_go (Below.refl _ _) hb
  replace r_a := r_a.below B
  replace r_b := r_b.below B
  replace r_l := r_l.below B
  replace r_x := r_x.below B
  replace r_y := r_y.below B
  replace bb := below_go bb B
  clear B hb
  obtain ⟨V_u, c_u, rfl, _, _, r_u, _⟩ := own_slice hv
  clear hv
  go_wp2_with fail
  refine (sameInts_any _ _ _ _ _ _ _ _ _ rfl rfl (by omega) r_x r_u).mono ?_
  rintro e w6 ⟨rfl, q, hq⟩
  have hb := below_of hq
  clear hq
  have B := below_go (Below.refl _ _) hb
  replace r_a := r_a.below B
  replace r_b := r_b.below B
  replace r_l := r_l.below B
  replace r_x := r_x.below B
  replace r_y := r_y.below B
  replace r_u := r_u.below B
  replace bb := below_go bb B
  clear B hb
  rw [show decide (valsOf a l = valsOf a l) = true by simp]
  clear r_u
  go_wp2_with fail
  refine (pgood _ _ _ _ _ _ _ _ _ _ _ _ _ Ha.out Hb.out Hl.out (by omega) r_a r_b r_l).mono ?_
  rintro e w7 ⟨rfl, hb⟩
  have B := below_go (Below.refl _ _) hb
  replace r_a := r_a.below B
  replace r_b := r_b.below B
  replace r_l := r_l.below B
  replace r_x := r_x.below B
  replace r_y := r_y.below B
  replace bb := below_go bb B
  clear B hb
  cases hg : goodB a b l
  · clear hg
    go_wp2_with fail
    go_ret
    exact Yes.of bb
  · have G1 := Lib.hid (good_vals hg).1
    have G2 := (good_vals hg).2
    have G3 := Lib.hid (List.isSublist_iff_sublist.2 (good_sub hg))
    have G4 := Lib.hid (List.isSublist_iff_sublist.2 (good_sub' hg))
    rw [← G1.out] at r_y ⊢
    rw [Hl.out] at G2
    have G5 := Lib.hid G2
    rw [G2]
    clear hg G2
    go_wp2_with fail
    refine (sameInts_any _ _ _ _ _ _ _ _ _ G5.out G5.out (by omega) r_x r_y).mono ?_
    rintro e w8 ⟨rfl, q, hq⟩
    have hb := below_of hq
    clear hq
    have B := below_go (Below.refl _ _) hb
    replace r_a := r_a.below B
    replace r_b := r_b.below B
    replace r_l := r_l.below B
    replace r_x := r_x.below B
    replace r_y := r_y.below B
    replace bb := below_go bb B
    clear B hb
    rw [show decide (valsOf a l = valsOf a l) = true by simp]
    clear r_y
    go_wp2_with fail
    refine (within_is _ _ _ _ _ _ _ _ _ G5.out Ha.out (by omega) (by omega) r_x r_a).mono ?_
    rintro e w9 ⟨rfl, q, hq⟩
    have hb := below_of hq
    clear hq
    have B := below_go (Below.refl _ _) hb
    replace r_a := r_a.below B
    replace r_b := r_b.below B
    replace r_l := r_l.below B
    replace r_x := r_x.below B
    replace bb := below_go bb B
    clear B hb
    rw [G3.out]
    go_wp2_with fail
    refine (within_is _ _ _ _ _ _ _ _ _ G5.out Hb.out (by omega) (by omega) r_x r_b).mono ?_
    rintro e w10 ⟨rfl, q, hq⟩
    have hb := below_of hq
    clear hq
    have B := below_go (Below.refl _ _) hb
    replace r_a := r_a.below B
    replace r_b := r_b.below B
    replace r_l := r_l.below B
    replace r_x := r_x.below B
    replace bb := below_go bb B
    clear B hb
    rw [G4.out]
    go_wp2_with fail
    go_ret
    exact Yes.of bb

/-! ### The row's step -/
theorem own : ownKnob Try.prog.godebug = none := by kernel_rfl
theorem laidOut : laidOutB Try.prog = true := by kernel_rfl

theorem contract (H : Type) (enc : TypeId × Value → H) (W : World) (base : Nat) (args : Array Value) (ds gs : List (DataW H)) (before : List MemPlace)
    (hval : ∀ (j : Nat) t v, Try.f8.params[j]? = some t → args[j]? = some v → Value.okWide Try.prog W .any base t v)
    (hW : DataW.Whole enc Try.prog Try.f8.params.toList Rows.pairsValuesSpec.vars false W args.toList ds gs before) :
    Calls Try.prog 8 args W fun e W' => ∃ v, e = .returned v ∧ Rows.pairsValuesSpec.post enc Try.prog Try.f8 false true false false W args v W' := by
  have hW' := hW
  obtain ⟨p, q, hA0, hV, rfl, hfz, hnd⟩ := hW
  have hA : DataW.TrodAll enc Try.prog W 0 (fun _ => true) true Try.f8.params.toList args.toList ds p := hA0
  rw [Try.params8] at hA hval
  obtain ⟨v0, vs0, d0, ds0, p0, q0, hargs, rfl, rfl, h0, r0⟩ := trodAll_cons hA
  obtain ⟨v1, vs1, d1, ds1, p1, q1, rfl, rfl, rfl, h1, r1⟩ := trodAll_cons r0
  obtain ⟨v2, vs2, d2, ds2, p2, q2, rfl, rfl, rfl, h2, r2⟩ := trodAll_cons r1
  obtain ⟨rfl, rfl, rfl⟩ := trodAll_nil r2
  obtain rfl : args = #[v0, v1, v2] := by cases args; simp_all
  obtain ⟨rfl, rfl⟩ := trodVars_none hV
  have k0 := h0
  have lt0 : ∀ x ∈ p0, x.block < W.heap.size := by obtain ⟨m, hm⟩ := k0; exact DataW.trod_lt m _ _ _ hm
  obtain ⟨A0, n0, c0, e0⟩ := okWide_slice Try.underlying22 (hval 0 22 v0 rfl rfl)
  subst e0
  obtain ⟨l0, w0⟩ := open_argI Try.underlying22 Try.underlying3 (by kernel_rfl) h0
  have k1 := h1
  have lt1 : ∀ x ∈ p1, x.block < W.heap.size := by obtain ⟨m, hm⟩ := k1; exact DataW.trod_lt m _ _ _ hm
  obtain ⟨A1, n1, c1, e1⟩ := okWide_slice Try.underlying22 (hval 1 22 v1 rfl rfl)
  subst e1
  obtain ⟨l1, w1⟩ := open_argI Try.underlying22 Try.underlying3 (by kernel_rfl) h1
  have k2 := h2
  have lt2 : ∀ x ∈ p2, x.block < W.heap.size := by obtain ⟨m, hm⟩ := k2; exact DataW.trod_lt m _ _ _ hm
  obtain ⟨A2, n2, c2, e2⟩ := okWide_slice Try.underlying25 (hval 2 25 v2 rfl rfl)
  subst e2
  obtain ⟨l2, w2⟩ := open_argP Try.underlying25 Try.underlying24 (by kernel_rfl) rfl rfl (by kernel_rfl) (by kernel_rfl) Try.underlying3 Try.underlying3 h2
  clear hA0
  refine (pairsValues_walk A0 n0 c0 l0 A1 n1 c1 l1 A2 n2 c2 l2 W w0 w1 w2).mono fun e W' ⟨he, bel⟩ => ?_
  subst he
  exact ⟨_, rfl, _, _, _, [], _, [], hW', trodAll_mk1 (shut_bool Try.underlying4 _), (trodAll_cons_mk (Below.trod laidOut (by kernel_rfl) (of_decide_eq_true (by kernel_rfl)) k0 bel lt0) (trodAll_cons_mk (Below.trod laidOut (by kernel_rfl) (of_decide_eq_true (by kernel_rfl)) k1 bel lt1) (trodAll_cons_mk (Below.trod laidOut (by kernel_rfl) (of_decide_eq_true (by kernel_rfl)) k2 bel lt2) trodAll_mk0))), rfl, bel.frame _, fun h => by cases h⟩

set_option maxRecDepth 100000 in
theorem lifted (os : Os) (started : os.Started) (H : Type) (enc : TypeId × Value → H) :
    ReturnsInHanded {} Try.checked os 8 .any (Rows.pairsValuesSpec.pre6 enc Try.prog Try.f8 Rows.pairsValuesRow.domain false) (Rows.pairsValuesSpec.post enc Try.prog Try.f8 false true false false) := by
  refine returnsInHanded_of_change (C := Try.checked) own started (by kernel_rfl) Try.func8
    (ChangeSpec.witness6 (enc := enc) (C := Try.checked) false ⟨#[], #[.slice none 0 0, .slice none 0 0, .slice none 0 0], []⟩ 8 (by kernel_rfl) (by kernel_rfl) (by kernel_rfl) (by kernel_rfl)) ?_
  intro W base args ds gs before hval hW _ _
  exact contract H enc W base args ds gs before hval hW

/-- The statement. -/
theorem proved : Rows.PairsValuesSaid :=
  OpenClaim.holds_of_wide 8 Try.f8 rfl rfl rfl rfl rfl rfl rfl ⟨rfl, rfl, rfl, rfl, rfl⟩ rfl rfl rfl rfl rfl (by kernel_rfl) Try.func8 (by kernel_rfl)
    (of_decide_eq_true (by kernel_rfl)) (by unfold Func.isWrapper; first | (rw [if_pos (by decide +kernel)]; kernel_rfl) | (rw [if_neg (by decide +kernel)]; exact ⟨rfl, rfl⟩))
    (fun os started H enc _ => lifted os started H enc)

end Go.Proofs.Ytlinkhffkgahpaa.pairsValuesP
