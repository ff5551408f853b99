/-
  Proved: for every input tattinglaw1.TokCuts returns true, and its arguments read afterwards as before. No condition.
-/
import Derived.Test.YtjhadoglcmhloaaAwake1
import Derived.Test.YtjhadoglcmhloaaArgs
namespace Go.Proofs.Ytjhadoglcmhloaa.tokCutsP
open Go.ChangeShapes Go.WideShapes Go.ChangeAt Go.RowKit
open Go.ChangeMaps (open_string shut_string)

set_option maxHeartbeats 800000 in
theorem tokCuts_walk (m : Int) (A : Option Addr) (n c : Nat) (l : List UInt8) (w : World) (_ : (Lit.int .i64 m).wf = true) (hb : ArgB w A n c l) :
    Calls Try.prog 4 #[.int .i64 m, .slice A n c] w (Yes w) := by
  by_cases hbig : 300 < n
  · go_enter Try.func4, Try.ntmps4
    go_wp2_with fail
    refine (awake_yes _).mono ?_
    rintro e w1 ⟨rfl, hb1⟩
    go_wp2_with fail
    go_ret
    exact ⟨rfl, hb1⟩
  obtain ⟨hn, hc, hcm, hr, hnil⟩ := hb
  subst hn
  have hsm : l.length ≤ 300 := by omega
  clear hbig
  by_cases hv : (m == 0 || m == 1) = true
  · go_enter Try.func4, Try.ntmps4
    go_wp2_with fail
    refine (awake_yes _).mono ?_
    rintro e w1 ⟨rfl, hb1⟩
    have hr1 := hr.below hb1
    have HV := Lib.hid hv
    clear hv
    go_wp2_with fail
    refine (cut_yes m A _ c l _ rfl hc (by omega) hr1 HV.out).mono ?_
    rintro e w2 ⟨v, vs, rfl, hown, hbs, hb2⟩
    have hr2 := hr1.below hb2
    go_wp2_with fail
    refine (refCut_yes m A _ c l _ rfl hc hcm (by omega) hr2 HV.out).mono ?_
    rintro e w3 ⟨u, us, rfl, hown', hbs', hb3⟩
    have hr3 := hr2.below hb3
    obtain ⟨A1, c1, rfl, _, _, hq1, _⟩ := own_slice hown
    obtain ⟨A2, c2, rfl, _, _, hq2, _⟩ := own_slice hown'
    go_wp2_with fail
    refine (count_yes m A _ c l _ rfl (by unfold maxLen; omega) hr3 HV.out).mono ?_
    rintro e w' ⟨rfl, rfl⟩
    have hcl := cut_len m l
    go_wp2_with fail
    refine (same_any A1 A2 _ _ c1 c2 vs us (cut m l) (cut m l) _ rfl rfl (by omega) (hq1.below hb3) (hbs.bss.below hb3) hq2 (hbs'.below hb3)).mono ?_
    rintro e w' ⟨rfl, q, rfl⟩
    go_wp2_with fail
    go_ret
    exact ⟨by simp, by
      have s1 := hb1.size
      have s2 := hb2.size
      exact below_drewN ((hb1.trans (hb2.mono s1)).trans (hb3.mono (Nat.le_trans s1 s2))) q⟩
  · have hv' : (m == 0 || m == 1) = false := by simpa using hv
    have HV := Lib.hid hv'
    clear hv hv'
    go_enter Try.func4, Try.ntmps4
    go_wp2_with fail
    refine (awake_yes _).mono ?_
    rintro e w1 ⟨rfl, hb1⟩
    go_wp2_with fail
    refine (cut_no m _ _ HV.out).mono ?_
    rintro e w2 ⟨rfl, rfl⟩
    go_wp2_with fail
    refine (refCut_no m _ _ HV.out).mono ?_
    rintro e w3 ⟨rfl, rfl⟩
    go_wp2_with fail
    refine (count_no m _ _ HV.out).mono ?_
    rintro e w' ⟨rfl, rfl⟩
    go_wp2_with fail
    refine (same_any none none 0 0 0 0 [] [] [] [] _ rfl rfl (by omega) (Row.nil _ _) (BSs.nil _) (Row.nil _ _) (BSs.nil _)).mono ?_
    rintro e w' ⟨rfl, q, rfl⟩
    go_wp2_with fail
    go_ret
    exact ⟨by simp, below_drewN hb1 q⟩

/-! ### The row's step -/
theorem own : ownKnob Try.prog.godebug = none := by kernel_rfl
theorem laidOut : laidOutB Try.prog = true := by kernel_rfl

theorem contract (H : Type) (enc : TypeId × Value → H) (W : World) (base : Nat) (args : Array Value) (ds gs : List (DataW H)) (before : List MemPlace)
    (hval : ∀ (j : Nat) t v, Try.f4.params[j]? = some t → args[j]? = some v → Value.okWide Try.prog W .any base t v)
    (hW : DataW.Whole enc Try.prog Try.f4.params.toList Rows.tokCutsSpec.vars false W args.toList ds gs before) :
    Calls Try.prog 4 args W fun e W' => ∃ v, e = .returned v ∧ Rows.tokCutsSpec.post enc Try.prog Try.f4 false true false false W args v W' := by
  have hW' := hW
  obtain ⟨p, q, hA0, hV, rfl, hfz, hnd⟩ := hW
  have hA : DataW.TrodAll enc Try.prog W 0 (fun _ => true) true Try.f4.params.toList args.toList ds p := hA0
  rw [Try.params4] at hA hval
  obtain ⟨v0, vs0, d0, ds0, p0, q0, hargs, rfl, rfl, h0, r0⟩ := trodAll_cons hA
  obtain ⟨v1, vs1, d1, ds1, p1, q1, rfl, rfl, rfl, h1, r1⟩ := trodAll_cons r0
  obtain ⟨rfl, rfl, rfl⟩ := trodAll_nil r1
  obtain rfl : args = #[v0, v1] := by cases args; simp_all
  obtain ⟨rfl, rfl⟩ := trodVars_none hV
  have k0 := h0
  have lt0 : ∀ x ∈ p0, x.block < W.heap.size := by obtain ⟨m, hm⟩ := k0; exact DataW.trod_lt m _ _ _ hm
  obtain ⟨a0, e0, _, _, w0⟩ := open_int Try.underlying3 (hval 0 3 v0 rfl rfl) h0
  subst e0
  have k1 := h1
  have lt1 : ∀ x ∈ p1, x.block < W.heap.size := by obtain ⟨m, hm⟩ := k1; exact DataW.trod_lt m _ _ _ hm
  obtain ⟨A1, n1, c1, e1⟩ := okWide_slice Try.underlying27 (hval 1 27 v1 rfl rfl)
  subst e1
  obtain ⟨l1, w1⟩ := open_argB Try.underlying27 Try.underlying5 (by kernel_rfl) h1
  clear hA0
  refine (tokCuts_walk a0 A1 n1 c1 l1 W w0 w1).mono fun e W' ⟨he, bel⟩ => ?_
  subst he
  exact ⟨_, rfl, _, _, _, [], _, [], hW', trodAll_mk1 (shut_bool Try.underlying4 _), (trodAll_cons_mk (Below.trod laidOut (by kernel_rfl) (of_decide_eq_true (by kernel_rfl)) k0 bel lt0) (trodAll_cons_mk (Below.trod laidOut (by kernel_rfl) (of_decide_eq_true (by kernel_rfl)) k1 bel lt1) trodAll_mk0)), rfl, bel.frame _, fun h => by cases h⟩

set_option maxRecDepth 100000 in
theorem lifted (os : Os) (started : os.Started) (H : Type) (enc : TypeId × Value → H) :
    ReturnsInHanded {} Try.checked os 4 .any (Rows.tokCutsSpec.pre6 enc Try.prog Try.f4 Rows.tokCutsRow.domain false) (Rows.tokCutsSpec.post enc Try.prog Try.f4 false true false false) := by
  refine returnsInHanded_of_change (C := Try.checked) own started (by kernel_rfl) Try.func4
    (ChangeSpec.witness6 (enc := enc) (C := Try.checked) false ⟨#[], #[.int .i64 0, .slice none 0 0], []⟩ 8 (by kernel_rfl) (by kernel_rfl) (by kernel_rfl) (by kernel_rfl)) ?_
  intro W base args ds gs before hval hW _ _
  exact contract H enc W base args ds gs before hval hW

/-- The statement. -/
theorem proved : Rows.TokCutsSaid :=
  OpenClaim.holds_of_wide 4 Try.f4 rfl rfl rfl rfl rfl rfl rfl ⟨rfl, rfl, rfl, rfl, rfl⟩ rfl rfl rfl rfl rfl (by kernel_rfl) Try.func4 (by kernel_rfl)
    (of_decide_eq_true (by kernel_rfl)) (by unfold Func.isWrapper; first | (rw [if_pos (by decide +kernel)]; kernel_rfl) | (rw [if_neg (by decide +kernel)]; exact ⟨rfl, rfl⟩))
    (fun os started H enc _ => lifted os started H enc)

end Go.Proofs.Ytjhadoglcmhloaa.tokCutsP
