/-
  Proved: for every input tattinglaw3.TrimGrows returns true, and its arguments read afterwards as before.
-/
import Derived.Test.YtambidlenfnbiaaAwake3
import Derived.Test.YtambidlenfnbiaaGr4
import Derived.Test.YtambidlenfnbiaaArgsP
import Derived.Deep.DeepCutAuto
namespace Go.Proofs.Ytambidlenfnbiaa.trimGrowsP
open Go.ChangeShapes Go.WideShapes Go.ChangeAt Go.RowKit
open Go.ChangeMaps (open_string shut_string)

theorem guard_rel {b : Bool} {N : Nat} (h : N ≤ 40) : Value.bool b = .bool true ∨ Value.bool b = .bool false ∧ N ≤ 40 := by
  cases b
  · exact .inr ⟨rfl, h⟩
  · exact .inl rfl

set_option maxHeartbeats 1600000 in
theorem trimGrows_walk (A : Option Addr) (N c : Nat) (l : List Pr) (p s n m : Int) (w : World) (ha : ArgP w A N c l) (h1 : (Lit.int .i64 p).wf = true) (h2 : (Lit.int .i64 s).wf = true) (h3 : (Lit.int .i64 n).wf = true) (h4 : (Lit.int .i64 m).wf = true) :
    Calls Try.prog 7 #[.slice A N c, .int .i64 p, .int .i64 s, .int .i64 n, .int .i64 m] w (Yes w) := by
  obtain ⟨hn, hc, hcm, hr, hnil, _⟩ := ha
  have HN := Lib.hid hn
  have P1 : Hid (I64 p) := bounds_i64 h1
  have P2 : Hid (I64 s) := bounds_i64 h2
  have P3 : Hid (I64 n) := bounds_i64 h3
  have P4 : Hid (I64 m) := bounds_i64 h4
  clear hn hnil h1 h2 h3 h4
  unfold maxLen at hcm
  go_enter Try.func7, Try.ntmps7
  go_wp2_with fail
  refine (awake_yes _).mono ?_
  rintro e w1 ⟨rfl, hb1⟩
  have hr1 := hr.below hb1
  clear hr
  go_upto_region 3 with (fail)
  go_cut [35] (fun v wx => (v = .bool true ∨ v = .bool false ∧ N ≤ 40) ∧ wx = w1)
  case first =>
    by_cases hN : N ≤ 40
    · have hz : decide (40 < (N : Int)) = false := by simp; omega
      have hz' : decide (40 < N) = false := by simp; omega
      go_wp2_with fail
      all_goals (go_meet; refine ⟨?_, rfl⟩; first | exact .inl rfl | exact .inr ⟨rfl, hN⟩ | exact guard_rel hN)
    · have hz : decide (40 < (N : Int)) = true := by simp; omega
      have hz' : decide (40 < N) = true := by simp; omega
      go_wp2_with fail
      all_goals (go_meet; exact ⟨.inl rfl, rfl⟩)
  case rest =>
    obtain ⟨rfl | ⟨rfl, hN⟩, rfl⟩ := hcut
    · go_wp2_with fail
      go_ret
      exact Yes.of hb1
    · go_wp2_with fail
      refine (grow_any A N c l p s n m _ HN.out (by omega) P1.out P2.out P3.out P4.out hr1).mono ?_
      rintro e w2 ⟨x, rfl, ox, b2⟩
      obtain ⟨X, cX, rfl, _, hX, rX, _⟩ := own_sliceS ox
      have hr2 := hr1.below b2
      have hb2 := hb1.trans (b2.mono hb1.size)
      clear ox b2 hb1 hr1
      go_wp2_with fail
      refine (refGrow_any A N c l p s n m _ HN.out (by omega) P1.out P2.out P3.out P4.out hr2).mono ?_
      rintro e w3 ⟨y, rfl, oy, b3⟩
      obtain ⟨Y, cY, rfl, _, _, rY, _⟩ := own_sliceS oy
      have hb3 := hb2.trans (b3.mono hb2.size)
      have rX3 := rX.below b3
      clear oy b3 hb2 hr2 rX
      have hL : (grownU l p s n m).length ≤ 9223372036854775807 := by unfold maxLen at hX; omega
      generalize growE l p s n m = E at *
      generalize grownU l p s n m = L at *
      go_wp2_with fail
      refine (samePairs_any X Y _ _ cX cY L L w3 rfl rfl hL rX3 rY).mono ?_
      rintro e w4 ⟨rfl, q, hq⟩
      have hb4 := below_drawn hq hb3
      clear hq rX3 rY hb3
      rw [show decide (L = L) = true by simp]
      go_wp2_with fail
      go_ret
      exact Yes.of hb4

/-! ### The row's step -/
theorem own : ownKnob Try.prog.godebug = none := by kernel_rfl
theorem laidOut : laidOutB Try.prog = true := by kernel_rfl

theorem contract (H : Type) (enc : TypeId × Value → H) (W : World) (base : Nat) (args : Array Value) (ds gs : List (DataW H)) (before : List MemPlace)
    (hval : ∀ (j : Nat) t v, Try.f7.params[j]? = some t → args[j]? = some v → Value.okWide Try.prog W .any base t v)
    (hW : DataW.Whole enc Try.prog Try.f7.params.toList Rows.trimGrowsSpec.vars false W args.toList ds gs before) :
    Calls Try.prog 7 args W fun e W' => ∃ v, e = .returned v ∧ Rows.trimGrowsSpec.post enc Try.prog Try.f7 false true false false W args v W' := by
  have hW' := hW
  obtain ⟨p, q, hA0, hV, rfl, hfz, hnd⟩ := hW
  have hA : DataW.TrodAll enc Try.prog W 0 (fun _ => true) true Try.f7.params.toList args.toList ds p := hA0
  rw [Try.params7] at hA hval
  obtain ⟨v0, vs0, d0, ds0, p0, q0, hargs, rfl, rfl, h0, r0⟩ := trodAll_cons hA
  obtain ⟨v1, vs1, d1, ds1, p1, q1, rfl, rfl, rfl, h1, r1⟩ := trodAll_cons r0
  obtain ⟨v2, vs2, d2, ds2, p2, q2, rfl, rfl, rfl, h2, r2⟩ := trodAll_cons r1
  obtain ⟨v3, vs3, d3, ds3, p3, q3, rfl, rfl, rfl, h3, r3⟩ := trodAll_cons r2
  obtain ⟨v4, vs4, d4, ds4, p4, q4, rfl, rfl, rfl, h4, r4⟩ := trodAll_cons r3
  obtain ⟨rfl, rfl, rfl⟩ := trodAll_nil r4
  obtain rfl : args = #[v0, v1, v2, v3, v4] := by cases args; simp_all
  obtain ⟨rfl, rfl⟩ := trodVars_none hV
  have k0 := h0
  have lt0 : ∀ x ∈ p0, x.block < W.heap.size := by obtain ⟨m, hm⟩ := k0; exact DataW.trod_lt m _ _ _ hm
  obtain ⟨A0, n0, c0, e0⟩ := okWide_slice Try.underlying25 (hval 0 25 v0 rfl rfl)
  subst e0
  obtain ⟨l0, w0⟩ := open_argP Try.underlying25 Try.underlying30 (by kernel_rfl) rfl rfl (by kernel_rfl) (by kernel_rfl) Try.underlying3 Try.underlying3 h0
  have k1 := h1
  have lt1 : ∀ x ∈ p1, x.block < W.heap.size := by obtain ⟨m, hm⟩ := k1; exact DataW.trod_lt m _ _ _ hm
  obtain ⟨a1, e1, _, _, w1⟩ := open_int Try.underlying3 (hval 1 3 v1 rfl rfl) h1
  subst e1
  have k2 := h2
  have lt2 : ∀ x ∈ p2, x.block < W.heap.size := by obtain ⟨m, hm⟩ := k2; exact DataW.trod_lt m _ _ _ hm
  obtain ⟨a2, e2, _, _, w2⟩ := open_int Try.underlying3 (hval 2 3 v2 rfl rfl) h2
  subst e2
  have k3 := h3
  have lt3 : ∀ x ∈ p3, x.block < W.heap.size := by obtain ⟨m, hm⟩ := k3; exact DataW.trod_lt m _ _ _ hm
  obtain ⟨a3, e3, _, _, w3⟩ := open_int Try.underlying3 (hval 3 3 v3 rfl rfl) h3
  subst e3
  have k4 := h4
  have lt4 : ∀ x ∈ p4, x.block < W.heap.size := by obtain ⟨m, hm⟩ := k4; exact DataW.trod_lt m _ _ _ hm
  obtain ⟨a4, e4, _, _, w4⟩ := open_int Try.underlying3 (hval 4 3 v4 rfl rfl) h4
  subst e4
  clear hA0
  refine (trimGrows_walk A0 n0 c0 l0 a1 a2 a3 a4 W w0 w1 w2 w3 w4).mono fun e W' ⟨he, bel⟩ => ?_
  subst he
  exact ⟨_, rfl, _, _, _, [], _, [], hW', trodAll_mk1 (shut_bool Try.underlying4 _), (trodAll_cons_mk (Below.trod laidOut (by kernel_rfl) (of_decide_eq_true (by kernel_rfl)) k0 bel lt0) (trodAll_cons_mk (Below.trod laidOut (by kernel_rfl) (of_decide_eq_true (by kernel_rfl)) k1 bel lt1) (trodAll_cons_mk (Below.trod laidOut (by kernel_rfl) (of_decide_eq_true (by kernel_rfl)) k2 bel lt2) (trodAll_cons_mk (Below.trod laidOut (by kernel_rfl) (of_decide_eq_true (by kernel_rfl)) k3 bel lt3) (trodAll_cons_mk (Below.trod laidOut (by kernel_rfl) (of_decide_eq_true (by kernel_rfl)) k4 bel lt4) trodAll_mk0))))), rfl, bel.frame _, fun h => by cases h⟩

set_option maxRecDepth 100000 in
theorem lifted (os : Os) (started : os.Started) (H : Type) (enc : TypeId × Value → H) :
    ReturnsInHanded {} Try.checked os 7 .any (Rows.trimGrowsSpec.pre6 enc Try.prog Try.f7 Rows.trimGrowsRow.domain false) (Rows.trimGrowsSpec.post enc Try.prog Try.f7 false true false false) := by
  refine returnsInHanded_of_change (C := Try.checked) own started (by kernel_rfl) Try.func7
    (ChangeSpec.witness6 (enc := enc) (C := Try.checked) false ⟨#[], #[.slice none 0 0, .int .i64 0, .int .i64 0, .int .i64 0, .int .i64 0], []⟩ 8 (by kernel_rfl) (by kernel_rfl) (by kernel_rfl) (by kernel_rfl)) ?_
  intro W base args ds gs before hval hW _ _
  exact contract H enc W base args ds gs before hval hW

/-- The statement. -/
theorem proved : Rows.TrimGrowsSaid :=
  OpenClaim.holds_of_wide 7 Try.f7 rfl rfl rfl rfl rfl rfl rfl ⟨rfl, rfl, rfl, rfl, rfl⟩ rfl rfl rfl rfl rfl (by kernel_rfl) Try.func7 (by kernel_rfl)
    (of_decide_eq_true (by kernel_rfl)) (by unfold Func.isWrapper; first | (rw [if_pos (by decide +kernel)]; kernel_rfl) | (rw [if_neg (by decide +kernel)]; exact ⟨rfl, rfl⟩))
    (fun os started H enc _ => lifted os started H enc)

end Go.Proofs.Ytambidlenfnbiaa.trimGrowsP
