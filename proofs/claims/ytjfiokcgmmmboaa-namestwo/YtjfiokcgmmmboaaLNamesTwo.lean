/-
  Proved: for every input tattinglaw2.NamesTwo returns true, and its arguments read afterwards as before.
-/
import Derived.Test.YtjfiokcgmmmboaaAwake2
import Derived.Test.YtjfiokcgmmmboaaRefT
import Derived.Test.YtjfiokcgmmmboaaLawKit2
import Derived.Test.YtjfiokcgmmmboaaArgs
namespace Go.Proofs.Ytjfiokcgmmmboaa.namesTwoP
open Go.ChangeShapes Go.WideShapes Go.ChangeAt Go.RowKit
open Go.ChangeMaps (open_string shut_string)

/-- What is left where a list is too long. -/
theorem out_few {A A' : Option Addr} {n c n' c' : Nat} {vs us : List Value} {la lz : List Bs} {w : World} (hA : ArgT w A n c vs la) (hB : ArgT w A' n' c' us lz) (h : (fewB la && fewB lz) = false) :
    Calls Try.prog 6 #[.slice A n c, .slice A' n' c'] w (Yes w) := by
  obtain ⟨hn, hc, hcm, hr, hbs, hnil⟩ := hA
  obtain ⟨hn', hc', hcm', hr', hbs', hnil'⟩ := hB
  have HN := Lib.hid hn
  have HN' := Lib.hid hn'
  clear hn hn'
  cases h1 : fewB la with
  | false =>
    have HF := Lib.hid h1
    clear h1 h
    go_enter Try.func6, Try.ntmps6
    go_wp2_with fail
    refine (awake_yes _).mono ?_
    rintro e w1 ⟨rfl, hb1⟩
    go_wp2_with fail
    refine (few_any A n c vs la _ HN.out (by omega) (hbs.below hb1).max (hr.below hb1) (hbs.below hb1)).mono ?_
    rintro e w' ⟨rfl, rfl⟩
    rw [HF.out]
    go_wp2_with fail
    go_ret
    exact ⟨rfl, hb1⟩
  | true =>
    have h2 : fewB lz = false := by rw [h1] at h; simpa using h
    have HF := Lib.hid h1
    have HF2 := Lib.hid h2
    clear h1 h2 h
    go_enter Try.func6, Try.ntmps6
    go_wp2_with fail
    refine (awake_yes _).mono ?_
    rintro e w1 ⟨rfl, hb1⟩
    go_wp2_with fail
    refine (few_any A n c vs la _ HN.out (by omega) (hbs.below hb1).max (hr.below hb1) (hbs.below hb1)).mono ?_
    rintro e w' ⟨rfl, rfl⟩
    rw [HF.out]
    go_wp2_with fail
    refine (few_any A' n' c' us lz _ HN'.out (by omega) (hbs'.below hb1).max (hr'.below hb1) (hbs'.below hb1)).mono ?_
    rintro e w' ⟨rfl, rfl⟩
    rw [HF2.out]
    go_wp2_with fail
    go_ret
    exact ⟨rfl, hb1⟩

set_option maxHeartbeats 1600000 in
theorem namesTwo_walk (A : Option Addr) (n c : Nat) (vs : List Value) (la : List (List UInt8)) (A' : Option Addr) (n' c' : Nat) (us : List Value) (lz : List (List UInt8)) (w : World) (hA : ArgT w A n c vs la) (hB : ArgT w A' n' c' us lz) :
    Calls Try.prog 6 #[.slice A n c, .slice A' n' c'] w (Yes w) := by
  cases hf : fewB la && fewB lz with
  | false => exact out_few hA hB hf
  | true =>
    obtain ⟨hn, hc, hcm, hr, hbs, hnil⟩ := hA
    obtain ⟨hn', hc', hcm', hr', hbs', hnil'⟩ := hB
    have HN := Lib.hid hn
    have HN' := Lib.hid hn'
    rw [Bool.and_eq_true] at hf
    have hl : n ≤ 40 := by rw [← hn]; exact fewB_len hf.1
    have hl' : n' ≤ 40 := by rw [← hn']; exact fewB_len hf.2
    have HF := Lib.hid hf
    clear hf hn hn'
    go_enter Try.func6, Try.ntmps6
    go_wp2_with fail
    refine (awake_yes _).mono ?_
    rintro e w1 ⟨rfl, hb1⟩
    have hr1 := hr.below hb1
    have hbs1 := hbs.below hb1
    have hr1' := hr'.below hb1
    have hbs1' := hbs'.below hb1
    clear hr hbs hr' hbs'
    go_wp2_with fail
    refine (few_any A n c vs la _ HN.out (by omega) hbs1.max hr1 hbs1).mono ?_
    rintro e w' ⟨rfl, rfl⟩
    rw [HF.out.1]
    go_wp2_with fail
    refine (few_any A' n' c' us lz _ HN'.out (by omega) hbs1'.max hr1' hbs1').mono ?_
    rintro e w' ⟨rfl, rfl⟩
    rw [HF.out.2]
    go_wp2_with fail
    refine (nmTwo_any A A' n c n' c' vs us la lz _ HN.out HN'.out (by omega) (by omega) hr1 hbs1 hnil hr1' hbs1' hnil').mono ?_
    rintro e w2 ⟨x, y, rfl, hx, hy, hb2⟩
    rw [HN.out] at hx
    rw [HN'.out] at hy
    obtain ⟨X, cX, rfl, _, _, hX, _⟩ := own_slice hx
    obtain ⟨Y, cY, rfl, _, _, hY, _⟩ := own_slice hy
    have hr2 := hr1.below hb2
    have hbs2 := hbs1.below hb2
    have hr2' := hr1'.below hb2
    have hbs2' := hbs1'.below hb2
    have hbw2 := hb1.trans (hb2.mono hb1.size)
    clear hx hy hr1 hbs1 hr1' hbs1' hb2 hb1
    go_wp2_with fail
    refine (refTwo_any A A' n c n' c' vs us la lz _ HN.out HN'.out (by omega) (by omega) (few_short HF.out.1) (few_short HF.out.2) hr2 hbs2 hnil hr2' hbs2' hnil').mono ?_
    rintro e w3 ⟨p, q, rfl, hp, hq, hb3⟩
    rw [HN.out] at hp
    rw [HN'.out] at hq
    obtain ⟨P, cP, rfl, _, _, hP, _⟩ := own_slice hp
    obtain ⟨Q, cQ, rfl, _, _, hQ, _⟩ := own_slice hq
    have hX3 := hX.below hb3
    have hY3 := hY.below hb3
    have hbw3 := hbw2.trans (hb3.mono hbw2.size)
    have hli : (idsOf (sortU (la ++ lz)) la).length = n := (idsOf_length _ _).trans HN.out
    have hli' : (idsOf (sortU (la ++ lz)) lz).length = n' := (idsOf_length _ _).trans HN'.out
    have HI := Lib.hid hli
    have HI' := Lib.hid hli'
    clear hp hq hX hY hr2 hbs2 hr2' hbs2' hb3 hbw2 hli hli'
    go_wp2_with fail
    refine (sameInts_any X P n n cX cP _ _ _ HI.out HI.out (by omega) hX3 hP).mono ?_
    rintro e w4 ⟨rfl, k, rfl⟩
    rw [show decide (idsOf (sortU (la ++ lz)) la = idsOf (sortU (la ++ lz)) la) = true by simp]
    go_wp2_with fail
    refine (sameInts_any Y Q n' n' cY cQ _ _ _ HI'.out HI'.out (by omega) (hY3.drewN k) (hQ.drewN k)).mono ?_
    rintro e w5 ⟨rfl, k2, rfl⟩
    rw [show decide (idsOf (sortU (la ++ lz)) lz = idsOf (sortU (la ++ lz)) lz) = true by simp]
    go_wp2_with fail
    go_ret
    exact ⟨rfl, below_drewN hbw3 _⟩

/-! ### The row's step -/
theorem own : ownKnob Try.prog.godebug = none := by kernel_rfl
theorem laidOut : laidOutB Try.prog = true := by kernel_rfl

theorem contract (H : Type) (enc : TypeId × Value → H) (W : World) (base : Nat) (args : Array Value) (ds gs : List (DataW H)) (before : List MemPlace)
    (hval : ∀ (j : Nat) t v, Try.f6.params[j]? = some t → args[j]? = some v → Value.okWide Try.prog W .any base t v)
    (hW : DataW.Whole enc Try.prog Try.f6.params.toList Rows.namesTwoSpec.vars false W args.toList ds gs before) :
    Calls Try.prog 6 args W fun e W' => ∃ v, e = .returned v ∧ Rows.namesTwoSpec.post enc Try.prog Try.f6 false true false false W args v W' := by
  have hW' := hW
  obtain ⟨p, q, hA0, hV, rfl, hfz, hnd⟩ := hW
  have hA : DataW.TrodAll enc Try.prog W 0 (fun _ => true) true Try.f6.params.toList args.toList ds p := hA0
  rw [Try.params6] at hA hval
  obtain ⟨v0, vs0, d0, ds0, p0, q0, hargs, rfl, rfl, h0, r0⟩ := trodAll_cons hA
  obtain ⟨v1, vs1, d1, ds1, p1, q1, rfl, rfl, rfl, h1, r1⟩ := trodAll_cons r0
  obtain ⟨rfl, rfl, rfl⟩ := trodAll_nil r1
  obtain rfl : args = #[v0, v1] := by cases args; simp_all
  obtain ⟨rfl, rfl⟩ := trodVars_none hV
  have k0 := h0
  have lt0 : ∀ x ∈ p0, x.block < W.heap.size := by obtain ⟨m, hm⟩ := k0; exact DataW.trod_lt m _ _ _ hm
  obtain ⟨A0, n0, c0, e0⟩ := okWide_slice Try.underlying22 (hval 0 22 v0 rfl rfl)
  subst e0
  obtain ⟨us0, l0, w0, r0d⟩ := open_argT Try.underlying22 Try.underlying24 Try.underlying5 (by kernel_rfl) (by kernel_rfl) h0
  have k1 := h1
  have lt1 : ∀ x ∈ p1, x.block < W.heap.size := by obtain ⟨m, hm⟩ := k1; exact DataW.trod_lt m _ _ _ hm
  obtain ⟨A1, n1, c1, e1⟩ := okWide_slice Try.underlying22 (hval 1 22 v1 rfl rfl)
  subst e1
  obtain ⟨us1, l1, w1, r1d⟩ := open_argT Try.underlying22 Try.underlying24 Try.underlying5 (by kernel_rfl) (by kernel_rfl) h1
  clear hA0
  refine (namesTwo_walk A0 n0 c0 us0 l0 A1 n1 c1 us1 l1 W w0 w1).mono fun e W' ⟨he, bel⟩ => ?_
  subst he
  exact ⟨_, rfl, _, _, _, [], _, [], hW', trodAll_mk1 (shut_bool Try.underlying4 _), (trodAll_cons_mk (Below.trod laidOut (by kernel_rfl) (of_decide_eq_true (by kernel_rfl)) k0 bel lt0) (trodAll_cons_mk (Below.trod laidOut (by kernel_rfl) (of_decide_eq_true (by kernel_rfl)) k1 bel lt1) trodAll_mk0)), rfl, bel.frame _, fun h => by cases h⟩

set_option maxRecDepth 100000 in
theorem lifted (os : Os) (started : os.Started) (H : Type) (enc : TypeId × Value → H) :
    ReturnsInHanded {} Try.checked os 6 .any (Rows.namesTwoSpec.pre6 enc Try.prog Try.f6 Rows.namesTwoRow.domain false) (Rows.namesTwoSpec.post enc Try.prog Try.f6 false true false false) := by
  refine returnsInHanded_of_change (C := Try.checked) own started (by kernel_rfl) Try.func6
    (ChangeSpec.witness6 (enc := enc) (C := Try.checked) false ⟨#[], #[.slice none 0 0, .slice none 0 0], []⟩ 8 (by kernel_rfl) (by kernel_rfl) (by kernel_rfl) (by kernel_rfl)) ?_
  intro W base args ds gs before hval hW _ _
  exact contract H enc W base args ds gs before hval hW

/-- The statement. -/
theorem proved : Rows.NamesTwoSaid :=
  OpenClaim.holds_of_wide 6 Try.f6 rfl rfl rfl rfl rfl rfl rfl ⟨rfl, rfl, rfl, rfl, rfl⟩ rfl rfl rfl rfl rfl (by kernel_rfl) Try.func6 (by kernel_rfl)
    (of_decide_eq_true (by kernel_rfl)) (by unfold Func.isWrapper; first | (rw [if_pos (by decide +kernel)]; kernel_rfl) | (rw [if_neg (by decide +kernel)]; exact ⟨rfl, rfl⟩))
    (fun os started H enc _ => lifted os started H enc)

end Go.Proofs.Ytjfiokcgmmmboaa.namesTwoP
