/-
  Proved: for every input tattinglaw3.TrimLen returns true, and its arguments read afterwards as before.
-/
import Derived.Test.YtambidlenfnbiaaAwake3
import Derived.Test.YtambidlenfnbiaaFew
import Derived.Test.YtambidlenfnbiaaBh2
import Derived.Test.YtambidlenfnbiaaArgsI
namespace Go.Proofs.Ytambidlenfnbiaa.trimLenP
open Go.ChangeShapes Go.WideShapes Go.ChangeAt Go.RowKit
open Go.ChangeMaps (open_string shut_string)

set_option maxHeartbeats 1600000 in
theorem trimLen_walk (A : Option Addr) (n c : Nat) (a : List Int) (B : Option Addr) (m d : Nat) (b : List Int) (w : World) (ha : ArgI w A n c a) (hb : ArgI w B m d b) :
    Calls Try.prog 6 #[.slice A n c, .slice B m d] w (Yes w) := by
  obtain ⟨hn, hc, hcm, hr, hnil, _⟩ := ha
  obtain ⟨hm, hd, hdm, hs, hnil', _⟩ := hb
  have HN := Lib.hid hn
  have HM := Lib.hid hm
  clear hn hm hnil hnil'
  unfold maxLen at hcm hdm
  by_cases h1 : n ≤ 30
  · by_cases h2 : m ≤ 30
    · go_enter Try.func6, Try.ntmps6
      go_wp2_with fail
      refine (awake_yes _).mono ?_
      rintro e w1 ⟨rfl, hb1⟩
      have hr1 := hr.below hb1
      have hs1 := hs.below hb1
      clear hr hs
      go_wp2_with fail
      refine (few_any A n c a 4 w1 HN.out (by omega) (by decide) (by decide) hr1).mono ?_
      rintro e w2 ⟨x, rfl, ox, b2⟩
      have hs2 := hs1.below b2
      have hb2 := hb1.trans (b2.mono hb1.size)
      clear hr1 hs1 hb1 b2
      go_wp2_with fail
      refine (few_any B m d b 4 w2 HM.out (by omega) (by decide) (by decide) hs2).mono ?_
      rintro e w3 ⟨y, rfl, oy, b3⟩
      have hb3 := hb2.trans (b3.mono hb2.size)
      have HX : Hid ((few 4 a).length = n) := by show _ = _; rw [few_length, HN.out]
      have HY : Hid ((few 4 b).length = m) := by show _ = _; rw [few_length, HM.out]
      rw [HX.out] at ox
      rw [HY.out] at oy
      obtain ⟨X, cX, rfl, xc, _, rX, _⟩ := own_slice (own_below ox b3 (Nat.le_refl _))
      obtain ⟨Y, cY, rfl, yc, _, rY, _⟩ := own_slice oy
      clear ox oy b3 hb2 hs2 HN HM hc hd hcm hdm
      generalize few 4 a = xs at *
      generalize few 4 b = ys at *
      go_wp2_with fail
      refine (of_any X Y n m cX cY xs ys w3 HX.out HY.out (by omega) (by omega) xc yc rX rY).mono ?_
      rintro e w4 ⟨rfl, q, hq⟩
      have hb4 := below_drawn hq hb3
      have rX4 := Row.drawn hq rX
      have rY4 := Row.drawn hq rY
      clear hq rX rY hb3
      go_wp2_with fail
      refine (mid_any X Y n m cX cY xs ys w4 HX.out HY.out (by omega) (by omega) xc yc rX4 rY4).mono ?_
      rintro e w5 ⟨u, v, rfl, ou, ov, b5⟩
      have hb5 := hb4.trans (b5.mono hb4.size)
      have rX5 := Row.below (w := w4) rX4 b5
      have rY5 := Row.below (w := w4) rY4 b5
      clear b5 hb4 rX4 rY4
      have l1 : (mid xs (pe xs ys) (se xs ys)).length ≤ 30 := by
        have := HX.out
        rw [mid_length _ _ _ (ends_left xs ys)]
        omega
      have l2 : (mid ys (pe xs ys) (se xs ys)).length ≤ 30 := by
        have := HY.out
        rw [mid_length _ _ _ (ends_right xs ys)]
        omega
      have p1 : pe xs ys + se xs ys ≤ 30 := by
        have := HX.out
        have := ends_left xs ys
        omega
      have HL := Lib.hid (lcs_trim xs ys)
      have LL := lcs_le_left (mid xs (pe xs ys) (se xs ys)) (mid ys (pe xs ys) (se xs ys))
      generalize mid xs (pe xs ys) (se xs ys) = us at *
      generalize mid ys (pe xs ys) (se xs ys) = vs at *
      generalize pe xs ys = p at *
      generalize se xs ys = s at *
      obtain ⟨U, cU, rfl, uc, um, rU, _⟩ := own_slice ou
      obtain ⟨V, cV, rfl, vc, vm, rV, _⟩ := own_slice ov
      clear ou ov
      go_wp2_with fail
      refine (len_any X Y n m cX cY xs ys w5 HX.out HY.out (by omega) (by omega) rX5 rY5).mono ?_
      rintro e w6 ⟨rfl, b6⟩
      have hb6 := hb5.trans (b6.mono hb5.size)
      have rU6 := rU.below b6
      have rV6 := rV.below b6
      clear b6 rU rV hb5 rX5 rY5
      go_wp2_with fail
      refine (len_any U V _ _ cU cV us vs w6 rfl rfl (by omega) (by omega) rU6 rV6).mono ?_
      rintro e w7 ⟨rfl, b7⟩
      have hb7 := hb6.trans (b7.mono hb6.size)
      have hz : ((lcs xs ys : Int) == (p : Int) + (s : Int) + (lcs us vs : Int)) = true := by
        have := HL.out
        simp
        omega
      clear b7 hb6 rU6 rV6 HL
      generalize lcs xs ys = L at *
      generalize lcs us vs = M at *
      go_wp2_with fail
      go_ret
      exact Yes.of hb7
    · go_enter Try.func6, Try.ntmps6
      go_wp2_with fail
      refine (awake_yes _).mono ?_
      rintro e w1 ⟨rfl, hb1⟩
      go_wp2_with fail
      go_ret
      exact Yes.of hb1
  · go_enter Try.func6, Try.ntmps6
    go_wp2_with fail
    refine (awake_yes _).mono ?_
    rintro e w1 ⟨rfl, hb1⟩
    go_wp2_with fail
    go_ret
    exact Yes.of hb1

/-! ### The row's step -/
theorem own : ownKnob Try.prog.godebug = none := by kernel_rfl
theorem laidOut : laidOutB Try.prog = true := by kernel_rfl

theorem contract (H : Type) (enc : TypeId × Value → H) (W : World) (base : Nat) (args : Array Value) (ds gs : List (DataW H)) (before : List MemPlace)
    (hval : ∀ (j : Nat) t v, Try.f6.params[j]? = some t → args[j]? = some v → Value.okWide Try.prog W .any base t v)
    (hW : DataW.Whole enc Try.prog Try.f6.params.toList Rows.trimLenSpec.vars false W args.toList ds gs before) :
    Calls Try.prog 6 args W fun e W' => ∃ v, e = .returned v ∧ Rows.trimLenSpec.post enc Try.prog Try.f6 false true false false W args v W' := by
  have hW' := hW
  obtain ⟨p, q, hA0, hV, rfl, hfz, hnd⟩ := hW
  have hA : DataW.TrodAll enc Try.prog W 0 (fun _ => true) true Try.f6.params.toList args.toList ds p := hA0
  rw [Try.params6] at hA hval
  obtain ⟨v0, vs0, d0, ds0, p0, q0, hargs, rfl, rfl, h0, r0⟩ := trodAll_cons hA
  obtain ⟨v1, vs1, d1, ds1, p1, q1, rfl, rfl, rfl, h1, r1⟩ := trodAll_cons r0
  obtain ⟨rfl, rfl, rfl⟩ := trodAll_nil r1
  obtain rfl : args = #[v0, v1] := by cases args; simp_all
  obtain ⟨rfl, rfl⟩ := trodVars_none hV
  have k0 := h0
  have lt0 : ∀ x ∈ p0, x.block < W.heap.size := by obtain ⟨m, hm⟩ := k0; exact DataW.trod_lt m _ _ _ hm
  obtain ⟨A0, n0, c0, e0⟩ := okWide_slice Try.underlying24 (hval 0 24 v0 rfl rfl)
  subst e0
  obtain ⟨l0, w0⟩ := open_argI Try.underlying24 Try.underlying3 (by kernel_rfl) h0
  have k1 := h1
  have lt1 : ∀ x ∈ p1, x.block < W.heap.size := by obtain ⟨m, hm⟩ := k1; exact DataW.trod_lt m _ _ _ hm
  obtain ⟨A1, n1, c1, e1⟩ := okWide_slice Try.underlying24 (hval 1 24 v1 rfl rfl)
  subst e1
  obtain ⟨l1, w1⟩ := open_argI Try.underlying24 Try.underlying3 (by kernel_rfl) h1
  clear hA0
  refine (trimLen_walk A0 n0 c0 l0 A1 n1 c1 l1 W w0 w1).mono fun e W' ⟨he, bel⟩ => ?_
  subst he
  exact ⟨_, rfl, _, _, _, [], _, [], hW', trodAll_mk1 (shut_bool Try.underlying4 _), (trodAll_cons_mk (Below.trod laidOut (by kernel_rfl) (of_decide_eq_true (by kernel_rfl)) k0 bel lt0) (trodAll_cons_mk (Below.trod laidOut (by kernel_rfl) (of_decide_eq_true (by kernel_rfl)) k1 bel lt1) trodAll_mk0)), rfl, bel.frame _, fun h => by cases h⟩

set_option maxRecDepth 100000 in
theorem lifted (os : Os) (started : os.Started) (H : Type) (enc : TypeId × Value → H) :
    ReturnsInHanded {} Try.checked os 6 .any (Rows.trimLenSpec.pre6 enc Try.prog Try.f6 Rows.trimLenRow.domain false) (Rows.trimLenSpec.post enc Try.prog Try.f6 false true false false) := by
  refine returnsInHanded_of_change (C := Try.checked) own started (by kernel_rfl) Try.func6
    (ChangeSpec.witness6 (enc := enc) (C := Try.checked) false ⟨#[], #[.slice none 0 0, .slice none 0 0], []⟩ 8 (by kernel_rfl) (by kernel_rfl) (by kernel_rfl) (by kernel_rfl)) ?_
  intro W base args ds gs before hval hW _ _
  exact contract H enc W base args ds gs before hval hW

/-- The statement. -/
theorem proved : Rows.TrimLenSaid :=
  OpenClaim.holds_of_wide 6 Try.f6 rfl rfl rfl rfl rfl rfl rfl ⟨rfl, rfl, rfl, rfl, rfl⟩ rfl rfl rfl rfl rfl (by kernel_rfl) Try.func6 (by kernel_rfl)
    (of_decide_eq_true (by kernel_rfl)) (by unfold Func.isWrapper; first | (rw [if_pos (by decide +kernel)]; kernel_rfl) | (rw [if_neg (by decide +kernel)]; exact ⟨rfl, rfl⟩))
    (fun os started H enc _ => lifted os started H enc)

end Go.Proofs.Ytambidlenfnbiaa.trimLenP
