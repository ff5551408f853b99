/-
  Proved: for every input tattinglaw3.TrimSays returns true, and its arguments read afterwards as before.
-/
import Derived.Test.YtambidlenfnbiaaAwake3
import Derived.Test.YtambidlenfnbiaaTr5
import Derived.Test.YtambidlenfnbiaaArgsI
namespace Go.Proofs.Ytambidlenfnbiaa.trimSaysP
open Go.ChangeShapes Go.WideShapes Go.ChangeAt Go.RowKit
open Go.ChangeMaps (open_string shut_string)

set_option maxHeartbeats 1600000 in
theorem trimSays_walk (A : Option Addr) (n c : Nat) (a : List Int) (B : Option Addr) (m d : Nat) (b : List Int) (w : World) (ha : ArgI w A n c a) (hb : ArgI w B m d b) :
    Calls Try.prog 4 #[.slice A n c, .slice B m d] w (Yes w) := by
  obtain ⟨hn, hc, hcm, hr, hnil, _⟩ := ha
  obtain ⟨hm, hd, hdm, hs, hnil', _⟩ := hb
  have HN := Lib.hid hn
  have HM := Lib.hid hm
  clear hn hm hnil hnil'
  unfold maxLen at hcm hdm
  by_cases h1 : n ≤ 60
  · by_cases h2 : m ≤ 60
    · go_enter Try.func4, Try.ntmps4
      go_wp2_with fail
      refine (awake_yes _).mono ?_
      rintro e w1 ⟨rfl, hb1⟩
      have hr1 := hr.below hb1
      have hs1 := hs.below hb1
      clear hr hs
      go_wp2_with fail
      refine (of_any A B n m c d a b w1 HN.out HM.out (by omega) (by omega) hc hd hr1 hs1).mono ?_
      rintro e w2 ⟨rfl, q, hq⟩
      have hr2 := Row.drawn hq hr1
      have hs2 := Row.drawn hq hs1
      have hb2 := below_drawn hq hb1
      clear hq hr1 hs1 hb1
      go_wp2_with fail
      refine (refEnds_any A B n m c d a b w2 HN.out HM.out (by omega) (by omega) hr2 hs2).mono ?_
      rintro e w3 ⟨rfl, q, hq⟩
      have hr3 := Row.drawn hq hr2
      have hs3 := Row.drawn hq hs2
      have hb3 := below_drawn hq hb2
      clear hq hr2 hs2 hb2
      go_wp2_with fail
      refine (mid_any A B n m c d a b w3 HN.out HM.out (by omega) (by omega) hc hd hr3 hs3).mono ?_
      rintro e w4 ⟨x, y, rfl, ox, oy, b4⟩
      obtain ⟨X, cX, rfl, _, _, rX, _⟩ := own_slice ox
      obtain ⟨Y, cY, rfl, _, _, rY, _⟩ := own_slice oy
      have hr4 := hr3.below b4
      have hs4 := hs3.below b4
      have hb4 : Below w.heap.size w w4 := hb3.trans (b4.mono hb3.size)
      clear ox oy b4 hb3 hr3 hs3
      go_wp2_with fail
      refine (refMid_any A B n m c d a b w4 HN.out HM.out (by omega) (by omega) hc hd hr4 hs4).mono ?_
      rintro e w5 ⟨U, cU, V, cV, rfl, rU, rV, q, hq⟩
      have hb5 := below_drawn hq hb4
      have rX5 := Row.drawn hq rX
      have rY5 := Row.drawn hq rY
      have rU5 := Row.drawn hq rU
      have rV5 := Row.drawn hq rV
      clear hq rX rY rU rV hb4 hr4 hs4
      have l1 : (mid a (pe a b) (se a b)).length ≤ 60 := by
        have := HN.out
        rw [mid_length _ _ _ (ends_left a b)]
        omega
      have l2 : (mid b (pe a b) (se a b)).length ≤ 60 := by
        have := HM.out
        rw [mid_length _ _ _ (ends_right a b)]
        omega
      generalize mid a (pe a b) (se a b) = x at *
      generalize mid b (pe a b) (se a b) = y at *
      go_wp2_with fail
      refine (sameInts_any X U _ _ cX cU x x w5 rfl rfl (by omega) rX5 rU5).mono ?_
      rintro e w6 ⟨rfl, q, hq⟩
      have hb6 := below_drawn hq hb5
      have rY6 := Row.drawn hq rY5
      have rV6 := Row.drawn hq rV5
      clear hq rX5 rY5 rU5 rV5 hb5
      rw [show decide (x = x) = true by simp]
      go_wp2_with fail
      refine (sameInts_any Y V _ _ cY cV y y w6 rfl rfl (by omega) rY6 rV6).mono ?_
      rintro e w7 ⟨rfl, q, hq⟩
      have hb7 := below_drawn hq hb6
      clear hq rY6 rV6 hb6
      rw [show decide (y = y) = true by simp]
      go_wp2_with fail
      go_ret
      exact Yes.of hb7
    · go_enter Try.func4, Try.ntmps4
      go_wp2_with fail
      refine (awake_yes _).mono ?_
      rintro e w1 ⟨rfl, hb1⟩
      go_wp2_with fail
      go_ret
      exact Yes.of hb1
  · go_enter Try.func4, Try.ntmps4
    go_wp2_with fail
    refine (awake_yes _).mono ?_
    rintro e w1 ⟨rfl, hb1⟩
    go_wp2_with fail
    go_ret
    exact Yes.of hb1

/-! ### The row's step -/
theorem own : ownKnob Try.prog.godebug = none := by kernel_rfl
theorem laidOut : laidOutB Try.prog = true := by kernel_rfl

theorem contract (H : Type) (enc : TypeId × Value → H) (W : World) (base : Nat) (args : Array Value) (ds gs : List (DataW H)) (before : List MemPlace)
    (hval : ∀ (j : Nat) t v, Try.f4.params[j]? = some t → args[j]? = some v → Value.okWide Try.prog W .any base t v)
    (hW : DataW.Whole enc Try.prog Try.f4.params.toList Rows.trimSaysSpec.vars false W args.toList ds gs before) :
    Calls Try.prog 4 args W fun e W' => ∃ v, e = .returned v ∧ Rows.trimSaysSpec.post enc Try.prog Try.f4 false true false false W args v W' := by
  have hW' := hW
  obtain ⟨p, q, hA0, hV, rfl, hfz, hnd⟩ := hW
  have hA : DataW.TrodAll enc Try.prog W 0 (fun _ => true) true Try.f4.params.toList args.toList ds p := hA0
  rw [Try.params4] at hA hval
  obtain ⟨v0, vs0, d0, ds0, p0, q0, hargs, rfl, rfl, h0, r0⟩ := trodAll_cons hA
  obtain ⟨v1, vs1, d1, ds1, p1, q1, rfl, rfl, rfl, h1, r1⟩ := trodAll_cons r0
  obtain ⟨rfl, rfl, rfl⟩ := trodAll_nil r1
  obtain rfl : args = #[v0, v1] := by cases args; simp_all
  obtain ⟨rfl, rfl⟩ := trodVars_none hV
  have k0 := h0
  have lt0 : ∀ x ∈ p0, x.block < W.heap.size := by obtain ⟨m, hm⟩ := k0; exact DataW.trod_lt m _ _ _ hm
  obtain ⟨A0, n0, c0, e0⟩ := okWide_slice Try.underlying24 (hval 0 24 v0 rfl rfl)
  subst e0
  obtain ⟨l0, w0⟩ := open_argI Try.underlying24 Try.underlying3 (by kernel_rfl) h0
  have k1 := h1
  have lt1 : ∀ x ∈ p1, x.block < W.heap.size := by obtain ⟨m, hm⟩ := k1; exact DataW.trod_lt m _ _ _ hm
  obtain ⟨A1, n1, c1, e1⟩ := okWide_slice Try.underlying24 (hval 1 24 v1 rfl rfl)
  subst e1
  obtain ⟨l1, w1⟩ := open_argI Try.underlying24 Try.underlying3 (by kernel_rfl) h1
  clear hA0
  refine (trimSays_walk A0 n0 c0 l0 A1 n1 c1 l1 W w0 w1).mono fun e W' ⟨he, bel⟩ => ?_
  subst he
  exact ⟨_, rfl, _, _, _, [], _, [], hW', trodAll_mk1 (shut_bool Try.underlying4 _), (trodAll_cons_mk (Below.trod laidOut (by kernel_rfl) (of_decide_eq_true (by kernel_rfl)) k0 bel lt0) (trodAll_cons_mk (Below.trod laidOut (by kernel_rfl) (of_decide_eq_true (by kernel_rfl)) k1 bel lt1) trodAll_mk0)), rfl, bel.frame _, fun h => by cases h⟩

set_option maxRecDepth 100000 in
theorem lifted (os : Os) (started : os.Started) (H : Type) (enc : TypeId × Value → H) :
    ReturnsInHanded {} Try.checked os 4 .any (Rows.trimSaysSpec.pre6 enc Try.prog Try.f4 Rows.trimSaysRow.domain false) (Rows.trimSaysSpec.post enc Try.prog Try.f4 false true false false) := by
  refine returnsInHanded_of_change (C := Try.checked) own started (by kernel_rfl) Try.func4
    (ChangeSpec.witness6 (enc := enc) (C := Try.checked) false ⟨#[], #[.slice none 0 0, .slice none 0 0], []⟩ 8 (by kernel_rfl) (by kernel_rfl) (by kernel_rfl) (by kernel_rfl)) ?_
  intro W base args ds gs before hval hW _ _
  exact contract H enc W base args ds gs before hval hW

/-- The statement. -/
theorem proved : Rows.TrimSaysSaid :=
  OpenClaim.holds_of_wide 4 Try.f4 rfl rfl rfl rfl rfl rfl rfl ⟨rfl, rfl, rfl, rfl, rfl⟩ rfl rfl rfl rfl rfl (by kernel_rfl) Try.func4 (by kernel_rfl)
    (of_decide_eq_true (by kernel_rfl)) (by unfold Func.isWrapper; first | (rw [if_pos (by decide +kernel)]; kernel_rfl) | (rw [if_neg (by decide +kernel)]; exact ⟨rfl, rfl⟩))
    (fun os started H enc _ => lifted os started H enc)

end Go.Proofs.Ytambidlenfnbiaa.trimSaysP
