/-
  Proved: for every input tattinglaw18.OnpFar returns true, and its arguments read afterwards as before.
-/
import Derived.Test.YtgbcdeahiemhoaaM32
import Derived.Test.YtgbcdeahiemhoaaM34
namespace Go.Proofs.Ytgbcdeahiemhoaa.onpFarP
open Go.ChangeShapes Go.WideShapes Go.ChangeAt Go.RowKit
open Go.ChangeMaps (open_string shut_string)

set_option maxRecDepth 100000 in
set_option maxHeartbeats 1600000 in
theorem onpFar_walk (Aa : Option Addr) (na ca : Nat) (a : List Int) (Ab : Option Addr) (nb cb : Nat) (b : List Int) (p : Int) (w : World) (ha : ArgI w Aa na ca a) (hb : ArgI w Ab nb cb b) (hp : (Lit.int .i64 p).wf = true) :
    Calls Try.prog 6 #[.slice Aa na ca, .slice Ab nb cb, .int .i64 p] w (Yes w) := by
  obtain ⟨hna, hca, hma, r_a, hnila, hwfa⟩ := ha
  have Ha := Lib.hid hna
  have Wa := Lib.hid hwfa
  clear hna hwfa
  unfold maxLen at hma
  obtain ⟨hnb, hcb, hmb, r_b, hnilb, hwfb⟩ := hb
  have Hb := Lib.hid hnb
  have Wb := Lib.hid hwfb
  clear hnb hwfb
  unfold maxLen at hmb
  have Wp : Hid (I64 p) := bounds_i64 hp
  clear hp
  by_cases ga : na ≤ 25
  case neg =>
    go_enter Try.func6, Try.ntmps6
    go_wp2_with fail
    refine (awake18 _).mono ?_
    rintro e w1 ⟨rfl, hb1⟩
    go_wp2_with fail
    go_ret
    exact Yes.of hb1
  by_cases gb : nb ≤ 25
  case neg =>
    go_enter Try.func6, Try.ntmps6
    go_wp2_with fail
    refine (awake18 _).mono ?_
    rintro e w1 ⟨rfl, hb1⟩
    go_wp2_with fail
    go_ret
    exact Yes.of hb1
  go_enter Try.func6, Try.ntmps6
  go_wp2_with fail
  refine (awake18 _).mono ?_
  rintro e w1 ⟨rfl, hb⟩
  have B := below_go (Below.refl _ _) hb
  replace r_a := r_a.below B
  replace r_b := r_b.below B
  have bb := B
  clear B hb
  go_wp2_with fail
  refine (few_any _ na _ a 3 _ Ha.out (by omega) (by decide) (by decide) r_a).mono ?_
  rintro e w2 ⟨v, rfl, hv, hb⟩
  have Hx : Hid ((few 3 a).length = na) := by show _ = _; rw [few_length, Ha.out]
  rw [Hx.out] at hv
  clear r_a
  replace r_b := r_b.below hb
  replace bb := below_go bb hb
  clear hb
  obtain ⟨V_x, c_x, rfl, hq_x, hx_x, r_x, hnil_x⟩ := own_slice hv
  clear hv
  generalize few 3 a = x at *
  go_wp2_with fail
  refine (few_any _ nb _ b 3 _ Hb.out (by omega) (by decide) (by decide) r_b).mono ?_
  rintro e w3 ⟨v, rfl, hv, hb⟩
  have Hy : Hid ((few 3 b).length = nb) := by show _ = _; rw [few_length, Hb.out]
  rw [Hy.out] at hv
  clear r_b
  replace r_x := r_x.below hb
  replace bb := below_go bb hb
  clear hb
  obtain ⟨V_y, c_y, rfl, hq_y, hx_y, r_y, hnil_y⟩ := own_slice hv
  clear hv
  generalize few 3 b = y at *
  have hFl := fun p => farI_le x y p
  simp only [Hx.out, Hy.out] at hFl
  have HFl := Lib.hid hFl
  clear hFl
  obtain ⟨M, hM⟩ : ∃ M, (farI x y p).length = M := ⟨_, rfl⟩
  have HM := Lib.hid hM
  have hMl := HFl.out p
  rw [hM] at hMl
  clear hM
  go_wp2_with fail
  refine (ofar_any _ _ na nb _ _ p x y _ Hx.out Hy.out hq_x hq_y (by omega) (by omega) r_x r_y).mono ?_
  rintro e w4 ⟨v, rfl, hv, hb⟩
  have B := below_go (Below.refl _ _) hb
  replace r_x := r_x.below B
  replace r_y := r_y.below B
  replace bb := below_go bb B
  clear B hb
  obtain ⟨V_u, c_u, rfl, _, _, r_u, _⟩ := own_slice hv
  clear hv
  rw [HM.out]
  go_wp2_with fail
  refine (rfar_any _ _ na nb _ _ p x y _ Hx.out Hy.out (by omega) (by omega) r_x r_y).mono ?_
  rintro e w5 ⟨v, rfl, hv, hb⟩
  have B := below_go (Below.refl _ _) hb
  replace r_x := r_x.below B
  replace r_y := r_y.below B
  replace r_u := r_u.below B
  replace bb := below_go bb B
  clear B hb
  obtain ⟨V_t, c_t, rfl, _, _, r_t, _⟩ := own_slice hv
  clear hv
  rw [HM.out]
  go_wp2_with fail
  refine (sameInts_any _ _ M M _ _ (farI x y p) (farI x y p) _ HM.out HM.out (by omega) r_u r_t).mono ?_
  rintro e w6 ⟨rfl, q, hq⟩
  have hb := below_of hq
  clear hq
  have B := below_go (Below.refl _ _) hb
  replace r_x := r_x.below B
  replace r_y := r_y.below B
  replace r_u := r_u.below B
  replace r_t := r_t.below B
  replace bb := below_go bb B
  clear B hb
  rw [show decide (farI x y p = farI x y p) = true by simp]
  clear r_u
  clear r_t
  clear HM hMl
  have bna : na ≤ 1048576 := by omega
  have bnb : nb ≤ 1048576 := by omega
  obtain ⟨U6, P6, p1, p2, p3, p4⟩ := six_in p
  obtain ⟨M, hM⟩ : ∃ M, (farI x y (P6 : Int)).length = M := ⟨_, rfl⟩
  have HM := Lib.hid hM
  have hMl := HFl.out (P6 : Int)
  rw [hM] at hMl
  clear hM
  go_wp2_with fail
  refine (ofar_any _ _ na nb _ _ (P6 : Int) x y _ Hx.out Hy.out hq_x hq_y bna bnb r_x r_y).mono ?_
  rintro e w7 ⟨v, rfl, hv, hb⟩
  have B := below_go (Below.refl _ _) hb
  replace r_x := r_x.below B
  replace r_y := r_y.below B
  replace bb := below_go bb B
  clear B hb
  obtain ⟨V_u, c_u, rfl, _, _, r_u, _⟩ := own_slice hv
  clear hv
  rw [HM.out]
  go_wp2_with fail
  refine (rfar_any _ _ na nb _ _ (P6 : Int) x y _ Hx.out Hy.out bna bnb r_x r_y).mono ?_
  rintro e w8 ⟨v, rfl, hv, hb⟩
  have B := below_go (Below.refl _ _) hb
  replace r_x := r_x.below B
  replace r_y := r_y.below B
  replace r_u := r_u.below B
  replace bb := below_go bb B
  clear B hb
  obtain ⟨V_t, c_t, rfl, _, _, r_t, _⟩ := own_slice hv
  clear hv
  rw [HM.out]
  clear p1 p2 p3
  go_wp2_with fail
  refine (sameInts_any _ _ M M _ _ (farI x y (P6 : Int)) (farI x y (P6 : Int)) _ HM.out HM.out (by omega) r_u r_t).mono ?_
  rintro e w9 ⟨rfl, q, hq⟩
  have hb := below_of hq
  clear hq
  have B := below_go (Below.refl _ _) hb
  replace r_x := r_x.below B
  replace r_y := r_y.below B
  replace r_u := r_u.below B
  replace r_t := r_t.below B
  replace bb := below_go bb B
  clear B hb
  rw [show decide (farI x y (P6 : Int) = farI x y (P6 : Int)) = true by simp]
  clear r_u
  clear r_t
  clear HM hMl
  go_wp2_with fail
  go_ret
  exact Yes.of bb

/-! ### The row's step -/
theorem own : ownKnob Try.prog.godebug = none := by kernel_rfl
theorem laidOut : laidOutB Try.prog = true := by kernel_rfl

set_option maxRecDepth 100000 in
theorem contract (H : Type) (enc : TypeId × Value → H) (W : World) (base : Nat) (args : Array Value) (ds gs : List (DataW H)) (before : List MemPlace)
    (hval : ∀ (j : Nat) t v, Try.f6.params[j]? = some t → args[j]? = some v → Value.okWide Try.prog W .any base t v)
    (hW : DataW.Whole enc Try.prog Try.f6.params.toList Rows.onpFarSpec.vars false W args.toList ds gs before) :
    Calls Try.prog 6 args W fun e W' => ∃ v, e = .returned v ∧ Rows.onpFarSpec.post enc Try.prog Try.f6 false true false false W args v W' := by
  have hW' := hW
  obtain ⟨p, q, hA0, hV, rfl, hfz, hnd⟩ := hW
  have hA : DataW.TrodAll enc Try.prog W 0 (fun _ => true) true Try.f6.params.toList args.toList ds p := hA0
  rw [Try.params6] at hA hval
  obtain ⟨v0, vs0, d0, ds0, p0, q0, hargs, rfl, rfl, h0, r0⟩ := trodAll_cons hA
  obtain ⟨v1, vs1, d1, ds1, p1, q1, rfl, rfl, rfl, h1, r1⟩ := trodAll_cons r0
  obtain ⟨v2, vs2, d2, ds2, p2, q2, rfl, rfl, rfl, h2, r2⟩ := trodAll_cons r1
  obtain ⟨rfl, rfl, rfl⟩ := trodAll_nil r2
  obtain rfl : args = #[v0, v1, v2] := by cases args; simp_all
  obtain ⟨rfl, rfl⟩ := trodVars_none hV
  have k0 := h0
  have lt0 : ∀ x ∈ p0, x.block < W.heap.size := by obtain ⟨m, hm⟩ := k0; exact DataW.trod_lt m _ _ _ hm
  obtain ⟨A0, n0, c0, e0⟩ := okWide_slice Try.underlying24 (hval 0 24 v0 rfl rfl)
  subst e0
  obtain ⟨l0, w0⟩ := open_argI Try.underlying24 Try.underlying3 (by kernel_rfl) h0
  have k1 := h1
  have lt1 : ∀ x ∈ p1, x.block < W.heap.size := by obtain ⟨m, hm⟩ := k1; exact DataW.trod_lt m _ _ _ hm
  obtain ⟨A1, n1, c1, e1⟩ := okWide_slice Try.underlying24 (hval 1 24 v1 rfl rfl)
  subst e1
  obtain ⟨l1, w1⟩ := open_argI Try.underlying24 Try.underlying3 (by kernel_rfl) h1
  have k2 := h2
  have lt2 : ∀ x ∈ p2, x.block < W.heap.size := by obtain ⟨m, hm⟩ := k2; exact DataW.trod_lt m _ _ _ hm
  obtain ⟨a2, e2, _, _, w2⟩ := open_int Try.underlying3 (hval 2 3 v2 rfl rfl) h2
  subst e2
  clear hA0
  refine (onpFar_walk A0 n0 c0 l0 A1 n1 c1 l1 a2 W w0 w1 w2).mono fun e W' ⟨he, bel⟩ => ?_
  subst he
  exact ⟨_, rfl, _, _, _, [], _, [], hW', trodAll_mk1 (shut_bool Try.underlying4 _), (trodAll_cons_mk (Below.trod laidOut (by kernel_rfl) (of_decide_eq_true (by kernel_rfl)) k0 bel lt0) (trodAll_cons_mk (Below.trod laidOut (by kernel_rfl) (of_decide_eq_true (by kernel_rfl)) k1 bel lt1) (trodAll_cons_mk (Below.trod laidOut (by kernel_rfl) (of_decide_eq_true (by kernel_rfl)) k2 bel lt2) trodAll_mk0))), rfl, bel.frame _, fun h => by cases h⟩

set_option maxRecDepth 100000 in
theorem lifted (os : Os) (started : os.Started) (H : Type) (enc : TypeId × Value → H) :
    ReturnsInHanded {} Try.checked os 6 .any (Rows.onpFarSpec.pre6 enc Try.prog Try.f6 Rows.onpFarRow.domain false) (Rows.onpFarSpec.post enc Try.prog Try.f6 false true false false) := by
  refine returnsInHanded_of_change (C := Try.checked) own started (by kernel_rfl) Try.func6
    (ChangeSpec.witness6 (enc := enc) (C := Try.checked) false ⟨#[], #[.slice none 0 0, .slice none 0 0, .int .i64 0], []⟩ 8 (by kernel_rfl) (by kernel_rfl) (by kernel_rfl) (by kernel_rfl)) ?_
  intro W base args ds gs before hval hW _ _
  exact contract H enc W base args ds gs before hval hW

/-- The statement. -/
theorem proved : Rows.OnpFarSaid :=
  OpenClaim.holds_of_wide 6 Try.f6 rfl rfl rfl rfl rfl rfl rfl ⟨rfl, rfl, rfl, rfl, rfl⟩ rfl rfl rfl rfl rfl (by kernel_rfl) Try.func6 (by kernel_rfl)
    (of_decide_eq_true (by kernel_rfl)) (by unfold Func.isWrapper; first | (rw [if_pos (by decide +kernel)]; kernel_rfl) | (rw [if_neg (by decide +kernel)]; exact ⟨rfl, rfl⟩))
    (fun os started H enc _ => lifted os started H enc)

end Go.Proofs.Ytgbcdeahiemhoaa.onpFarP
