/-
  Proved: for every input tattinglaw3.TrimFits returns true, and its arguments read afterwards as before.
-/
import Derived.Test.YtambidlenfnbiaaAwake3
import Derived.Test.YtambidlenfnbiaaFew
import Derived.Test.YtambidlenfnbiaaFits
import Derived.Test.YtambidlenfnbiaaArgsI
namespace Go.Proofs.Ytambidlenfnbiaa.trimFitsP
open Go.ChangeShapes Go.WideShapes Go.ChangeAt Go.RowKit
open Go.ChangeMaps (open_string shut_string)

set_option maxHeartbeats 1600000 in
theorem trimFits_walk (A : Option Addr) (n c : Nat) (a : List Int) (B : Option Addr) (m d : Nat) (b : List Int) (w : World) (ha : ArgI w A n c a) (hb : ArgI w B m d b) :
    Calls Try.prog 8 #[.slice A n c, .slice B m d] w (Yes w) := by
  obtain ⟨hn, hc, hcm, hr, hnil, _⟩ := ha
  obtain ⟨hm, hd, hdm, hs, hnil', _⟩ := hb
  have HN := Lib.hid hn
  have HM := Lib.hid hm
  clear hn hm hnil hnil'
  unfold maxLen at hcm hdm
  by_cases h1 : n ≤ 30
  · by_cases h2 : m ≤ 30
    · go_enter Try.func8, Try.ntmps8
      go_wp2_with fail
      refine (awake_yes _).mono ?_
      rintro e w1 ⟨rfl, hb1⟩
      have hr1 := hr.below hb1
      have hs1 := hs.below hb1
      clear hr hs
      go_wp2_with fail
      refine (few_any A n c a 3 w1 HN.out (by omega) (by decide) (by decide) hr1).mono ?_
      rintro e w2 ⟨x, rfl, ox, b2⟩
      have hs2 := hs1.below b2
      have hb2 := hb1.trans (b2.mono hb1.size)
      clear hr1 hs1 hb1 b2
      go_wp2_with fail
      refine (few_any B m d b 3 w2 HM.out (by omega) (by decide) (by decide) hs2).mono ?_
      rintro e w3 ⟨y, rfl, oy, b3⟩
      have hb3 := hb2.trans (b3.mono hb2.size)
      have HX : Hid ((few 3 a).length = n) := by show _ = _; rw [few_length, HN.out]
      have HY : Hid ((few 3 b).length = m) := by show _ = _; rw [few_length, HM.out]
      rw [HX.out] at ox
      rw [HY.out] at oy
      obtain ⟨X, cX, rfl, xc, _, rX, _⟩ := own_slice (own_below ox b3 (Nat.le_refl _))
      obtain ⟨Y, cY, rfl, yc, _, rY, _⟩ := own_slice oy
      clear ox oy b3 hb2 hs2 HN HM hc hd hcm hdm
      generalize few 3 a = xs at *
      generalize few 3 b = ys at *
      go_wp2_with fail
      refine (of_any X Y n m cX cY xs ys w3 HX.out HY.out (by omega) (by omega) xc yc rX rY).mono ?_
      rintro e w4 ⟨rfl, q, hq⟩
      have hb4 := below_drawn hq hb3
      have rX4 := Row.drawn hq rX
      have rY4 := Row.drawn hq rY
      clear hq rX rY hb3
      go_wp2_with fail
      refine (mid_any X Y n m cX cY xs ys w4 HX.out HY.out (by omega) (by omega) xc yc rX4 rY4).mono ?_
      rintro e w5 ⟨u, v, rfl, ou, ov, b5⟩
      have hb5 := hb4.trans (b5.mono hb4.size)
      have rX5 := Row.below (w := w4) rX4 b5
      have rY5 := Row.below (w := w4) rY4 b5
      clear b5 hb4 rX4 rY4
      have l1 : (mid xs (pe xs ys) (se xs ys)).length ≤ 30 := by
        have := HX.out
        rw [mid_length _ _ _ (ends_left xs ys)]
        omega
      have l2 : (mid ys (pe xs ys) (se xs ys)).length ≤ 30 := by
        have := HY.out
        rw [mid_length _ _ _ (ends_right xs ys)]
        omega
      have p1 : pe xs ys + se xs ys ≤ 30 := by
        have := HX.out
        have := ends_left xs ys
        omega
      have FA := Lib.hid (fun l i j h1 h2 => fits_all xs ys l i j n m HX.out HY.out h1 h2)
      generalize mid xs (pe xs ys) (se xs ys) = us at *
      generalize mid ys (pe xs ys) (se xs ys) = vs at *
      generalize pe xs ys = p at *
      generalize se xs ys = s at *
      obtain ⟨U, cU, rfl, uc, um, rU, _⟩ := own_slice ou
      obtain ⟨V, cV, rfl, vc, vm, rV, _⟩ := own_slice ov
      clear ou ov
      go_wp2_with fail
      refine (least_any U V _ _ cU cV us vs w5 rfl rfl (by omega) (by omega) rU rV).mono ?_
      rintro e w6 ⟨z, l, i, j, rfl, hch, hl, oz, b6⟩
      obtain ⟨Z, cZ, rfl, zc, zm, rZ, _⟩ := own_sliceS oz
      have hb6 := hb5.trans (b6.mono hb5.size)
      have rX6 := Row.below (w := w5) rX5 b6
      have rY6 := Row.below (w := w5) rY5 b6
      obtain ⟨G1, G2, G3⟩ := FA.out l i j h1 h2 hch hl
      have LG := grown_length l p s (n : Int) (m : Int)
      have H1 := Lib.hid G1
      have H2 := Lib.hid G2
      have H3 := Lib.hid G3
      have ll : l.length ≤ 30 := by rw [hl]; exact Nat.le_trans (lcs_le_left us vs) l1
      clear b6 oz hch hl rU rV rX5 rY5 hb5 FA G1 G2 G3
      go_wp2_with fail
      refine (grow_any Z _ cZ l p s n m w6 rfl (by omega) (i64_small (by omega)) (i64_small (by omega)) (i64_small (by omega)) (i64_small (by omega)) rZ).mono ?_
      rintro e w7 ⟨g, rfl, og, b7⟩
      have hb7 := hb6.trans (b7.mono hb6.size)
      have rX7 := Row.below (w := w6) rX6 b7
      have rY7 := Row.below (w := w6) rY6 b7
      rw [show growE l p s n m = 0 by simp [growE, H1.out]]
      rw [show grownU l p s n m = grown l p s n m by simp [grownU, H1.out], LG] at og
      obtain ⟨G, cG, rfl, gc, gm, rG, _⟩ := own_sliceS og
      clear b7 og rZ rX6 rY6 hb6
      have HG := Lib.hid LG
      clear LG
      generalize hgl : grown l p s (n : Int) (m : Int) = gl at *
      clear hgl
      go_wp2_with fail
      refine (good_any X Y G n m _ cX cY cG xs ys gl w7 HX.out HY.out HG.out (by omega) rX7 rY7 rG).mono ?_
      rintro e w8 ⟨rfl, b8⟩
      have hb8 := hb7.trans (b8.mono hb7.size)
      have rX8 := Row.below (w := w7) rX7 b8
      have rY8 := Row.below (w := w7) rY7 b8
      rw [H2.out]
      clear b8 hb7 rX7 rY7 rG
      go_wp2_with fail
      refine (len_any X Y n m cX cY xs ys w8 HX.out HY.out (by omega) (by omega) rX8 rY8).mono ?_
      rintro e w9 ⟨rfl, b9⟩
      have hb9 := hb8.trans (b9.mono hb8.size)
      rw [← H3.out]
      clear b9 hb8 rX8 rY8
      go_wp2_with fail
      go_ret
      exact Yes.of hb9
    · go_enter Try.func8, Try.ntmps8
      go_wp2_with fail
      refine (awake_yes _).mono ?_
      rintro e w1 ⟨rfl, hb1⟩
      go_wp2_with fail
      go_ret
      exact Yes.of hb1
  · go_enter Try.func8, Try.ntmps8
    go_wp2_with fail
    refine (awake_yes _).mono ?_
    rintro e w1 ⟨rfl, hb1⟩
    go_wp2_with fail
    go_ret
    exact Yes.of hb1

/-! ### The row's step -/
theorem own : ownKnob Try.prog.godebug = none := by kernel_rfl
theorem laidOut : laidOutB Try.prog = true := by kernel_rfl

theorem contract (H : Type) (enc : TypeId × Value → H) (W : World) (base : Nat) (args : Array Value) (ds gs : List (DataW H)) (before : List MemPlace)
    (hval : ∀ (j : Nat) t v, Try.f8.params[j]? = some t → args[j]? = some v → Value.okWide Try.prog W .any base t v)
    (hW : DataW.Whole enc Try.prog Try.f8.params.toList Rows.trimFitsSpec.vars false W args.toList ds gs before) :
    Calls Try.prog 8 args W fun e W' => ∃ v, e = .returned v ∧ Rows.trimFitsSpec.post enc Try.prog Try.f8 false true false false W args v W' := by
  have hW' := hW
  obtain ⟨p, q, hA0, hV, rfl, hfz, hnd⟩ := hW
  have hA : DataW.TrodAll enc Try.prog W 0 (fun _ => true) true Try.f8.params.toList args.toList ds p := hA0
  rw [Try.params8] at hA hval
  obtain ⟨v0, vs0, d0, ds0, p0, q0, hargs, rfl, rfl, h0, r0⟩ := trodAll_cons hA
  obtain ⟨v1, vs1, d1, ds1, p1, q1, rfl, rfl, rfl, h1, r1⟩ := trodAll_cons r0
  obtain ⟨rfl, rfl, rfl⟩ := trodAll_nil r1
  obtain rfl : args = #[v0, v1] := by cases args; simp_all
  obtain ⟨rfl, rfl⟩ := trodVars_none hV
  have k0 := h0
  have lt0 : ∀ x ∈ p0, x.block < W.heap.size := by obtain ⟨m, hm⟩ := k0; exact DataW.trod_lt m _ _ _ hm
  obtain ⟨A0, n0, c0, e0⟩ := okWide_slice Try.underlying24 (hval 0 24 v0 rfl rfl)
  subst e0
  obtain ⟨l0, w0⟩ := open_argI Try.underlying24 Try.underlying3 (by kernel_rfl) h0
  have k1 := h1
  have lt1 : ∀ x ∈ p1, x.block < W.heap.size := by obtain ⟨m, hm⟩ := k1; exact DataW.trod_lt m _ _ _ hm
  obtain ⟨A1, n1, c1, e1⟩ := okWide_slice Try.underlying24 (hval 1 24 v1 rfl rfl)
  subst e1
  obtain ⟨l1, w1⟩ := open_argI Try.underlying24 Try.underlying3 (by kernel_rfl) h1
  clear hA0
  refine (trimFits_walk A0 n0 c0 l0 A1 n1 c1 l1 W w0 w1).mono fun e W' ⟨he, bel⟩ => ?_
  subst he
  exact ⟨_, rfl, _, _, _, [], _, [], hW', trodAll_mk1 (shut_bool Try.underlying4 _), (trodAll_cons_mk (Below.trod laidOut (by kernel_rfl) (of_decide_eq_true (by kernel_rfl)) k0 bel lt0) (trodAll_cons_mk (Below.trod laidOut (by kernel_rfl) (of_decide_eq_true (by kernel_rfl)) k1 bel lt1) trodAll_mk0)), rfl, bel.frame _, fun h => by cases h⟩

set_option maxRecDepth 100000 in
theorem lifted (os : Os) (started : os.Started) (H : Type) (enc : TypeId × Value → H) :
    ReturnsInHanded {} Try.checked os 8 .any (Rows.trimFitsSpec.pre6 enc Try.prog Try.f8 Rows.trimFitsRow.domain false) (Rows.trimFitsSpec.post enc Try.prog Try.f8 false true false false) := by
  refine returnsInHanded_of_change (C := Try.checked) own started (by kernel_rfl) Try.func8
    (ChangeSpec.witness6 (enc := enc) (C := Try.checked) false ⟨#[], #[.slice none 0 0, .slice none 0 0], []⟩ 8 (by kernel_rfl) (by kernel_rfl) (by kernel_rfl) (by kernel_rfl)) ?_
  intro W base args ds gs before hval hW _ _
  exact contract H enc W base args ds gs before hval hW

/-- The statement. -/
theorem proved : Rows.TrimFitsSaid :=
  OpenClaim.holds_of_wide 8 Try.f8 rfl rfl rfl rfl rfl rfl rfl ⟨rfl, rfl, rfl, rfl, rfl⟩ rfl rfl rfl rfl rfl (by kernel_rfl) Try.func8 (by kernel_rfl)
    (of_decide_eq_true (by kernel_rfl)) (by unfold Func.isWrapper; first | (rw [if_pos (by decide +kernel)]; kernel_rfl) | (rw [if_neg (by decide +kernel)]; exact ⟨rfl, rfl⟩))
    (fun os started H enc _ => lifted os started H enc)

end Go.Proofs.Ytambidlenfnbiaa.trimFitsP
