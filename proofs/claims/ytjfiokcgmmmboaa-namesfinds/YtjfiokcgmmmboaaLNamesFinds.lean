/-
  Proved: for every input tattinglaw2.NamesFinds returns true, and its arguments read afterwards as before.
-/
import Derived.Test.YtjfiokcgmmmboaaAwake2
import Derived.Test.YtjfiokcgmmmboaaRefT
import Derived.Test.YtjfiokcgmmmboaaLawKit2
import Derived.Test.YtjfiokcgmmmboaaArgs
namespace Go.Proofs.Ytjfiokcgmmmboaa.namesFindsP
open Go.ChangeShapes Go.WideShapes Go.ChangeAt Go.RowKit
open Go.ChangeMaps (open_string shut_string)

set_option maxHeartbeats 1600000 in
theorem out_few (A : Option Addr) (n c : Nat) (vs : List Value) (la : List (List UInt8)) (A' : Option Addr) (n' c' : Nat) (us : List Value) (lz : List (List UInt8)) (T : Option Addr) (m d : Nat) (t : List UInt8) (w : World) (hA : ArgT w A n c vs la) (hB : ArgT w A' n' c' us lz) (hT : ArgB w T m d t) (h : (fewB la && fewB lz && decide (m ≤ 40)) = false) :
    Calls Try.prog 5 #[.slice A n c, .slice A' n' c', .slice T m d] w (Yes w) := by
  obtain ⟨hn, hc, hcm, hr, hbs, hnil⟩ := hA
  obtain ⟨hn', hc', hcm', hr', hbs', hnil'⟩ := hB
  obtain ⟨_, hmd, hdm, _, _⟩ := hT
  have HN := Lib.hid hn
  have HN' := Lib.hid hn'
  have hmm : m ≤ 9223372036854775807 := by unfold maxLen at hdm; omega
  clear hn hn'
  cases h1 : fewB la with
  | false =>
    have HF := Lib.hid h1
    clear h1 h
    go_enter Try.func5, Try.ntmps5
    go_wp2_with fail
    refine (awake_yes _).mono ?_
    rintro e w1 ⟨rfl, hb1⟩
    go_wp2_with fail
    refine (few_any A n c vs la _ HN.out (by omega) (hbs.below hb1).max (hr.below hb1) (hbs.below hb1)).mono ?_
    rintro e w' ⟨rfl, rfl⟩
    rw [HF.out]
    go_wp2_with fail
    go_ret
    exact ⟨rfl, hb1⟩
  | true =>
    cases h2 : fewB lz with
    | false =>
      have HF := Lib.hid h1
      have HF2 := Lib.hid h2
      clear h1 h2 h
      go_enter Try.func5, Try.ntmps5
      go_wp2_with fail
      refine (awake_yes _).mono ?_
      rintro e w1 ⟨rfl, hb1⟩
      go_wp2_with fail
      refine (few_any A n c vs la _ HN.out (by omega) (hbs.below hb1).max (hr.below hb1) (hbs.below hb1)).mono ?_
      rintro e w' ⟨rfl, rfl⟩
      rw [HF.out]
      go_wp2_with fail
      refine (few_any A' n' c' us lz _ HN'.out (by omega) (hbs'.below hb1).max (hr'.below hb1) (hbs'.below hb1)).mono ?_
      rintro e w' ⟨rfl, rfl⟩
      rw [HF2.out]
      go_wp2_with fail
      go_ret
      exact ⟨rfl, hb1⟩
    | true =>
      have h3 : 40 < m := by
        rw [h1, h2] at h
        simpa using h
      have HF := Lib.hid h1
      have HF2 := Lib.hid h2
      clear h1 h2 h
      go_enter Try.func5, Try.ntmps5
      go_wp2_with fail
      refine (awake_yes _).mono ?_
      rintro e w1 ⟨rfl, hb1⟩
      go_wp2_with fail
      refine (few_any A n c vs la _ HN.out (by omega) (hbs.below hb1).max (hr.below hb1) (hbs.below hb1)).mono ?_
      rintro e w' ⟨rfl, rfl⟩
      rw [HF.out]
      go_wp2_with fail
      refine (few_any A' n' c' us lz _ HN'.out (by omega) (hbs'.below hb1).max (hr'.below hb1) (hbs'.below hb1)).mono ?_
      rintro e w' ⟨rfl, rfl⟩
      rw [HF2.out]
      go_wp2_with fail
      go_ret
      exact ⟨rfl, hb1⟩

set_option maxRecDepth 100000 in
set_option maxHeartbeats 4000000 in
theorem namesFinds_walk (A : Option Addr) (n c : Nat) (vs : List Value) (la : List (List UInt8)) (A' : Option Addr) (n' c' : Nat) (us : List Value) (lz : List (List UInt8)) (T : Option Addr) (m d : Nat) (t : List UInt8) (w : World) (hA : ArgT w A n c vs la) (hB : ArgT w A' n' c' us lz) (hT : ArgB w T m d t) :
    Calls Try.prog 5 #[.slice A n c, .slice A' n' c', .slice T m d] w (Yes w) := by
  cases hf : fewB la && fewB lz && decide (m ≤ 40) with
  | false => exact out_few A n c vs la A' n' c' us lz T m d t w hA hB hT hf
  | true =>
    obtain ⟨hn, hc, hcm, hr, hbs, hnil⟩ := hA
    obtain ⟨hn', hc', hcm', hr', hbs', hnil'⟩ := hB
    obtain ⟨hm, hmd, hdm, ht, _⟩ := hT
    have HN := Lib.hid hn
    have HN' := Lib.hid hn'
    have HM := Lib.hid hm
    simp only [Bool.and_eq_true, decide_eq_true_eq] at hf
    have hl : n ≤ 40 := by rw [← hn]; exact fewB_len hf.1.1
    have hl' : n' ≤ 40 := by rw [← hn']; exact fewB_len hf.1.2
    have hm40 : m ≤ 40 := hf.2
    have HF := Lib.hid hf.1.1
    have HF2 := Lib.hid hf.1.2
    clear hf hn hn' hm
    go_enter Try.func5, Try.ntmps5
    go_wp2_with fail
    refine (awake_yes _).mono ?_
    rintro e w1 ⟨rfl, hb1⟩
    go_wp2_with fail
    refine (few_any A n c vs la _ HN.out (by omega) (hbs.below hb1).max (hr.below hb1) (hbs.below hb1)).mono ?_
    rintro e w' ⟨rfl, rfl⟩
    rw [HF.out]
    go_wp2_with fail
    refine (few_any A' n' c' us lz _ HN'.out (by omega) (hbs'.below hb1).max (hr'.below hb1) (hbs'.below hb1)).mono ?_
    rintro e w' ⟨rfl, rfl⟩
    rw [HF2.out]
    have hr1 := hr.below hb1
    have hbs1 := hbs.below hb1
    have hr1' := hr'.below hb1
    have hbs1' := hbs'.below hb1
    have ht1 := ht.below hb1
    clear hr hbs hr' hbs' ht
    go_wp2_with fail
    refine (refSort_any A n c vs la _ HN.out (by omega) (few_short HF.out) hr1 hbs1).mono ?_
    rintro e w2 ⟨u, xs, rfl, hown2, hbx, hb2⟩
    have hRd := rises_sortU la
    have hlen := sortU_length la
    have hallI : allIn (sortU la) la = true := allIn_iff.2 fun x hx => mem_sortU.2 hx
    rw [HN.out] at hlen
    generalize sortU la = ds at *
    have HR := Lib.hid hRd
    have HAI := Lib.hid hallI
    clear hRd hallI
    obtain ⟨D, cD, rfl, _, _, hD2, _⟩ := own_slice hown2
    have hbx2 := hbx.below hb2
    have hr2 := hr1.below hb2
    have hbs2 := hbs1.below hb2
    have hr2' := hr1'.below hb2
    have hbs2' := hbs1'.below hb2
    have ht2 := ht1.below hb2
    have hbw2 := hb1.trans (hb2.mono hb1.size)
    clear hr1 hbs1 hr1' hbs1' ht1 hb2 hb1 hbx
    go_wp2_with fail
    refine (nmFind_any D T _ cD m d _ xs ds t _ rfl (by omega) HM.out hown2 hbx2 ht2 HR.out).mono ?_
    rintro e w3 ⟨rfl, hb3⟩
    have hown3 := own_below hown2 hb3 (Nat.le_refl _)
    have hD3 := hD2.below hb3
    have hbx3 := hbx2.below hb3
    have hr3 := hr2.below hb3
    have hbs3 := hbs2.below hb3
    have hr3' := hr2'.below hb3
    have hbs3' := hbs2'.below hb3
    have ht3 := ht2.below hb3
    have hbw3 := hbw2.trans (hb3.mono hbw2.size)
    clear hr2 hbs2 hr2' hbs2' ht2 hb3 hbw2 hbx2 hown2 hD2
    go_wp2_with fail
    refine (refFind_any D T _ cD m d xs ds t _ rfl (by omega) HM.out hD3 hbx3 ht3 HR.out).mono ?_
    rintro e w' ⟨rfl, rfl⟩
    generalize fnd ds t = FN
    obtain ⟨K, I⟩ := FN
    go_wp2_with fail
    refine (nmIds_any D A' _ cD _ c' _ xs us ds lz _ rfl (by omega) HN'.out (by omega) hown3 hbx3 hr3' hbs3' HR.out).mono ?_
    rintro e w4 ⟨x, rfl, hx, hb4⟩
    obtain ⟨X, cX, rfl, _, _, hX, _⟩ := own_slice hx
    have hown4 := own_below hown3 hb4 (Nat.le_refl _)
    have hD4 := hD3.below hb4
    have hbx4 := hbx3.below hb4
    have hr4 := hr3.below hb4
    have hbs4 := hbs3.below hb4
    have hr4' := hr3'.below hb4
    have hbs4' := hbs3'.below hb4
    have hbw4 := hbw3.trans (hb4.mono hbw3.size)
    clear hr3 hbs3 hr3' hbs3' ht3 hb4 hbw3 hbx3 hown3 hD3 hx
    go_wp2_with fail
    refine (refIds_any D A' _ cD _ c' xs us ds lz _ rfl (by omega) HN'.out (by omega) hD4 hbx4 hr4' hbs4' HR.out).mono ?_
    rintro e w5 ⟨y, rfl, hy, hb5⟩
    obtain ⟨Y, cY, rfl, _, _, hY, _⟩ := own_slice hy
    have hX5 := hX.below hb5
    have hown5 := own_below hown4 hb5 (Nat.le_refl _)
    have hbx5 := hbx4.below hb5
    have hr5 := hr4.below hb5
    have hbs5 := hbs4.below hb5
    have hbw5 := hbw4.trans (hb5.mono hbw4.size)
    clear hr4 hbs4 hr4' hbs4' hb5 hbw4 hbx4 hown4 hD4 hy hX
    go_wp2_with fail
    refine (nmIds_any D A _ cD _ c _ xs vs ds la _ rfl (by omega) HN.out (by omega) hown5 hbx5 hr5 hbs5 HR.out).mono ?_
    rintro e w6 ⟨z, rfl, hz, hb6⟩
    have hzl : (idsU ds la).length = n := by
      unfold idsU
      rw [if_pos HAI.out, idsOf_length, HN.out]
    rw [hzl] at hz
    clear hzl
    obtain ⟨Z, cZ, rfl, _, _, hZ, _⟩ := own_slice hz
    rw [HAI.out]
    have hX6 := hX5.below hb6
    have hY6 := hY.below hb6
    have hbw6 := hbw5.trans (hb6.mono hbw5.size)
    have hil : (idsU ds lz).length ≤ 40 := by
      unfold idsU
      split
      · rw [idsOf_length, HN'.out]; omega
      · simp
    clear hr5 hbs5 hb6 hbw5 hbx5 hown5 hz hX5 hY hZ
    generalize allIn ds lz = ALL
    generalize idsU ds lz = ID at *
    generalize hidl : ID.length = il at *
    have HIL := Lib.hid hidl
    clear hidl
    go_wp2_with fail
    refine (sameInts_any X Y il il cX cY ID ID _ HIL.out HIL.out (by omega) hX6 hY6).mono ?_
    rintro e w7 ⟨rfl, q, rfl⟩
    rw [show decide (ID = ID) = true by simp]
    go_wp2_with fail
    go_ret
    exact ⟨by first | rfl | simp, below_drewN hbw6 _⟩

/-! ### The row's step -/
theorem own : ownKnob Try.prog.godebug = none := by kernel_rfl
theorem laidOut : laidOutB Try.prog = true := by kernel_rfl

theorem contract (H : Type) (enc : TypeId × Value → H) (W : World) (base : Nat) (args : Array Value) (ds gs : List (DataW H)) (before : List MemPlace)
    (hval : ∀ (j : Nat) t v, Try.f5.params[j]? = some t → args[j]? = some v → Value.okWide Try.prog W .any base t v)
    (hW : DataW.Whole enc Try.prog Try.f5.params.toList Rows.namesFindsSpec.vars false W args.toList ds gs before) :
    Calls Try.prog 5 args W fun e W' => ∃ v, e = .returned v ∧ Rows.namesFindsSpec.post enc Try.prog Try.f5 false true false false W args v W' := by
  have hW' := hW
  obtain ⟨p, q, hA0, hV, rfl, hfz, hnd⟩ := hW
  have hA : DataW.TrodAll enc Try.prog W 0 (fun _ => true) true Try.f5.params.toList args.toList ds p := hA0
  rw [Try.params5] at hA hval
  obtain ⟨v0, vs0, d0, ds0, p0, q0, hargs, rfl, rfl, h0, r0⟩ := trodAll_cons hA
  obtain ⟨v1, vs1, d1, ds1, p1, q1, rfl, rfl, rfl, h1, r1⟩ := trodAll_cons r0
  obtain ⟨v2, vs2, d2, ds2, p2, q2, rfl, rfl, rfl, h2, r2⟩ := trodAll_cons r1
  obtain ⟨rfl, rfl, rfl⟩ := trodAll_nil r2
  obtain rfl : args = #[v0, v1, v2] := by cases args; simp_all
  obtain ⟨rfl, rfl⟩ := trodVars_none hV
  have k0 := h0
  have lt0 : ∀ x ∈ p0, x.block < W.heap.size := by obtain ⟨m, hm⟩ := k0; exact DataW.trod_lt m _ _ _ hm
  obtain ⟨A0, n0, c0, e0⟩ := okWide_slice Try.underlying22 (hval 0 22 v0 rfl rfl)
  subst e0
  obtain ⟨us0, l0, w0, r0d⟩ := open_argT Try.underlying22 Try.underlying24 Try.underlying5 (by kernel_rfl) (by kernel_rfl) h0
  have k1 := h1
  have lt1 : ∀ x ∈ p1, x.block < W.heap.size := by obtain ⟨m, hm⟩ := k1; exact DataW.trod_lt m _ _ _ hm
  obtain ⟨A1, n1, c1, e1⟩ := okWide_slice Try.underlying22 (hval 1 22 v1 rfl rfl)
  subst e1
  obtain ⟨us1, l1, w1, r1d⟩ := open_argT Try.underlying22 Try.underlying24 Try.underlying5 (by kernel_rfl) (by kernel_rfl) h1
  have k2 := h2
  have lt2 : ∀ x ∈ p2, x.block < W.heap.size := by obtain ⟨m, hm⟩ := k2; exact DataW.trod_lt m _ _ _ hm
  obtain ⟨A2, n2, c2, e2⟩ := okWide_slice Try.underlying24 (hval 2 24 v2 rfl rfl)
  subst e2
  obtain ⟨l2, w2⟩ := open_argB Try.underlying24 Try.underlying5 (by kernel_rfl) h2
  clear hA0
  refine (namesFinds_walk A0 n0 c0 us0 l0 A1 n1 c1 us1 l1 A2 n2 c2 l2 W w0 w1 w2).mono fun e W' ⟨he, bel⟩ => ?_
  subst he
  exact ⟨_, rfl, _, _, _, [], _, [], hW', trodAll_mk1 (shut_bool Try.underlying4 _), (trodAll_cons_mk (Below.trod laidOut (by kernel_rfl) (of_decide_eq_true (by kernel_rfl)) k0 bel lt0) (trodAll_cons_mk (Below.trod laidOut (by kernel_rfl) (of_decide_eq_true (by kernel_rfl)) k1 bel lt1) (trodAll_cons_mk (Below.trod laidOut (by kernel_rfl) (of_decide_eq_true (by kernel_rfl)) k2 bel lt2) trodAll_mk0))), rfl, bel.frame _, fun h => by cases h⟩

set_option maxRecDepth 100000 in
theorem lifted (os : Os) (started : os.Started) (H : Type) (enc : TypeId × Value → H) :
    ReturnsInHanded {} Try.checked os 5 .any (Rows.namesFindsSpec.pre6 enc Try.prog Try.f5 Rows.namesFindsRow.domain false) (Rows.namesFindsSpec.post enc Try.prog Try.f5 false true false false) := by
  refine returnsInHanded_of_change (C := Try.checked) own started (by kernel_rfl) Try.func5
    (ChangeSpec.witness6 (enc := enc) (C := Try.checked) false ⟨#[], #[.slice none 0 0, .slice none 0 0, .slice none 0 0], []⟩ 8 (by kernel_rfl) (by kernel_rfl) (by kernel_rfl) (by kernel_rfl)) ?_
  intro W base args ds gs before hval hW _ _
  exact contract H enc W base args ds gs before hval hW

/-- The statement. -/
theorem proved : Rows.NamesFindsSaid :=
  OpenClaim.holds_of_wide 5 Try.f5 rfl rfl rfl rfl rfl rfl rfl ⟨rfl, rfl, rfl, rfl, rfl⟩ rfl rfl rfl rfl rfl (by kernel_rfl) Try.func5 (by kernel_rfl)
    (of_decide_eq_true (by kernel_rfl)) (by unfold Func.isWrapper; first | (rw [if_pos (by decide +kernel)]; kernel_rfl) | (rw [if_neg (by decide +kernel)]; exact ⟨rfl, rfl⟩))
    (fun os started H enc _ => lifted os started H enc)

end Go.Proofs.Ytjfiokcgmmmboaa.namesFindsP
