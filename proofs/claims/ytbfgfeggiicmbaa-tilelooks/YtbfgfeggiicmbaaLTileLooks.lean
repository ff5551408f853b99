/-
  Proved: for every input tattinglaw13.TileLooks returns true, and its arguments read afterwards as before.
-/
import Derived.Test.YtbfgfeggiicmbaaTlW
import Derived.Test.YtbfgfeggiicmbaaArgs
namespace Go.Proofs.Ytbfgfeggiicmbaa.tileLooksP
open Go.ChangeShapes Go.WideShapes Go.ChangeAt Go.RowKit

set_option maxRecDepth 100000 in
set_option maxHeartbeats 3200000 in
theorem tileLooks_walk (t eq top left : Int) (w : World) (_ : (Lit.int .i64 t).wf = true) (_ : (Lit.int .i64 eq).wf = true) (_ : (Lit.int .i64 top).wf = true) (_ : (Lit.int .i64 left).wf = true) :
    Calls Try.prog 4 #[.int .i64 t, .int .i64 eq, .int .i64 top, .int .i64 left] w (Yes w) := by
  by_cases ht : 1 ≤ t ∧ t ≤ 3
  · obtain ⟨n, rfl⟩ := Int.eq_ofNat_of_zero_le (show 0 ≤ t by omega)
    have hn : 1 ≤ n ∧ n ≤ 3 := by omega
    obtain ⟨A, B, C, hV⟩ := lookV_some n eq top left
    have HV := Lib.hid hV
    clear hV ht
    go_enter Try.func4, Try.ntmps4
    go_wp2_with fail
    refine (awake13 _).mono ?_
    rintro e w1 ⟨rfl, bb⟩
    go_wp2_with fail
    refine (new_ok n _ hn).mono ?_
    rintro e w2 ⟨b, rfl, hO, h0, hb⟩
    have hT : Til n b w2 := .inl ⟨_, hO⟩
    have h1 : w.heap.size ≤ b := Nat.le_trans bb.size h0
    replace bb := below_go bb hb
    clear hb hO h0
    go_wp2_with fail
    refine (look_w n b eq top left _ w w2 hn hT bb h1 HV.out).mono ?_
    rintro e w3 ⟨rfl, hT, bb, _⟩
    go_wp2_with fail
    refine (rlook_any n eq top left w3 hn).mono ?_
    rintro e w4 ⟨rfl, hb⟩
    rw [HV.out]
    replace hT := hT.below hb
    replace bb := below_go bb hb
    clear hb HV
    go_wp2_with fail
    refine (side_w b n w w4 hT bb).mono ?_
    rintro e w5 ⟨rfl, hT, bb⟩
    go_wp2_with fail
    refine (size_w b n w w5 hn hT bb).mono ?_
    rintro e w6 ⟨rfl, hT, bb⟩
    go_wp2_with fail
    refine (rsize_any n w6 hn).mono ?_
    rintro e w7 ⟨rfl, rfl⟩
    generalize sizN n = N at *
    go_wp2_with fail
    go_ret
    exact Yes.of bb
  · have HN := Lib.hid (fun w => new_no t w ht)
    by_cases g : t < 1
    · clear ht
      go_enter Try.func4, Try.ntmps4
      go_wp2_with fail
      refine (awake13 _).mono ?_
      rintro e w1 ⟨rfl, bb⟩
      go_wp2_with fail
      refine (HN.out _).mono ?_
      rintro e w2 ⟨rfl, hb⟩
      replace bb := below_go bb hb
      clear hb HN
      go_wp2_with fail
      go_ret
      exact Yes.of bb
    · have g2 : 3 < t := by omega
      clear ht
      go_enter Try.func4, Try.ntmps4
      go_wp2_with fail
      refine (awake13 _).mono ?_
      rintro e w1 ⟨rfl, bb⟩
      go_wp2_with fail
      refine (HN.out _).mono ?_
      rintro e w2 ⟨rfl, hb⟩
      replace bb := below_go bb hb
      clear hb HN
      go_wp2_with fail
      go_ret
      exact Yes.of bb

/-! ### The row's step -/
theorem own : ownKnob Try.prog.godebug = none := by kernel_rfl
theorem laidOut : laidOutB Try.prog = true := by kernel_rfl

theorem contract (H : Type) (enc : TypeId × Value → H) (W : World) (base : Nat) (args : Array Value) (ds gs : List (DataW H)) (before : List MemPlace)
    (hval : ∀ (j : Nat) t v, Try.f4.params[j]? = some t → args[j]? = some v → Value.okWide Try.prog W .any base t v)
    (hW : DataW.Whole enc Try.prog Try.f4.params.toList Rows.tileLooksSpec.vars false W args.toList ds gs before) :
    Calls Try.prog 4 args W fun e W' => ∃ v, e = .returned v ∧ Rows.tileLooksSpec.post enc Try.prog Try.f4 false true false false W args v W' := by
  have hW' := hW
  obtain ⟨p, q, hA0, hV, rfl, hfz, hnd⟩ := hW
  have hA : DataW.TrodAll enc Try.prog W 0 (fun _ => true) true Try.f4.params.toList args.toList ds p := hA0
  rw [Try.params4] at hA hval
  obtain ⟨v0, vs0, d0, ds0, p0, q0, hargs, rfl, rfl, h0, r0⟩ := trodAll_cons hA
  obtain ⟨v1, vs1, d1, ds1, p1, q1, rfl, rfl, rfl, h1, r1⟩ := trodAll_cons r0
  obtain ⟨v2, vs2, d2, ds2, p2, q2, rfl, rfl, rfl, h2, r2⟩ := trodAll_cons r1
  obtain ⟨v3, vs3, d3, ds3, p3, q3, rfl, rfl, rfl, h3, r3⟩ := trodAll_cons r2
  obtain ⟨rfl, rfl, rfl⟩ := trodAll_nil r3
  obtain rfl : args = #[v0, v1, v2, v3] := by cases args; simp_all
  obtain ⟨rfl, rfl⟩ := trodVars_none hV
  have k0 := h0
  have lt0 : ∀ x ∈ p0, x.block < W.heap.size := by obtain ⟨m, hm⟩ := k0; exact DataW.trod_lt m _ _ _ hm
  obtain ⟨a0, e0, _, _, w0⟩ := open_int Try.underlying3 (hval 0 3 v0 rfl rfl) h0
  subst e0
  have k1 := h1
  have lt1 : ∀ x ∈ p1, x.block < W.heap.size := by obtain ⟨m, hm⟩ := k1; exact DataW.trod_lt m _ _ _ hm
  obtain ⟨a1, e1, _, _, w1⟩ := open_int Try.underlying3 (hval 1 3 v1 rfl rfl) h1
  subst e1
  have k2 := h2
  have lt2 : ∀ x ∈ p2, x.block < W.heap.size := by obtain ⟨m, hm⟩ := k2; exact DataW.trod_lt m _ _ _ hm
  obtain ⟨a2, e2, _, _, w2⟩ := open_int Try.underlying3 (hval 2 3 v2 rfl rfl) h2
  subst e2
  have k3 := h3
  have lt3 : ∀ x ∈ p3, x.block < W.heap.size := by obtain ⟨m, hm⟩ := k3; exact DataW.trod_lt m _ _ _ hm
  obtain ⟨a3, e3, _, _, w3⟩ := open_int Try.underlying3 (hval 3 3 v3 rfl rfl) h3
  subst e3
  clear hA0
  refine (tileLooks_walk a0 a1 a2 a3 W w0 w1 w2 w3).mono fun e W' ⟨he, bel⟩ => ?_
  subst he
  exact ⟨_, rfl, _, _, _, [], _, [], hW', trodAll_mk1 (shut_bool Try.underlying4 _), (trodAll_cons_mk (Below.trod laidOut (by kernel_rfl) (of_decide_eq_true (by kernel_rfl)) k0 bel lt0) (trodAll_cons_mk (Below.trod laidOut (by kernel_rfl) (of_decide_eq_true (by kernel_rfl)) k1 bel lt1) (trodAll_cons_mk (Below.trod laidOut (by kernel_rfl) (of_decide_eq_true (by kernel_rfl)) k2 bel lt2) (trodAll_cons_mk (Below.trod laidOut (by kernel_rfl) (of_decide_eq_true (by kernel_rfl)) k3 bel lt3) trodAll_mk0)))), rfl, bel.frame _, fun h => by cases h⟩

set_option maxRecDepth 100000 in
theorem lifted (os : Os) (started : os.Started) (H : Type) (enc : TypeId × Value → H) :
    ReturnsInHanded {} Try.checked os 4 .any (Rows.tileLooksSpec.pre6 enc Try.prog Try.f4 Rows.tileLooksRow.domain false) (Rows.tileLooksSpec.post enc Try.prog Try.f4 false true false false) := by
  refine returnsInHanded_of_change (C := Try.checked) own started (by kernel_rfl) Try.func4
    (ChangeSpec.witness6 (enc := enc) (C := Try.checked) false ⟨#[], #[.int .i64 0, .int .i64 0, .int .i64 0, .int .i64 0], []⟩ 8 (by kernel_rfl) (by kernel_rfl) (by kernel_rfl) (by kernel_rfl)) ?_
  intro W base args ds gs before hval hW _ _
  exact contract H enc W base args ds gs before hval hW

/-- The statement. -/
theorem proved : Rows.TileLooksSaid :=
  OpenClaim.holds_of_wide 4 Try.f4 rfl rfl rfl rfl rfl rfl rfl ⟨rfl, rfl, rfl, rfl, rfl⟩ rfl rfl rfl rfl rfl (by kernel_rfl) Try.func4 (by kernel_rfl)
    (of_decide_eq_true (by kernel_rfl)) (by unfold Func.isWrapper; first | (rw [if_pos (by decide +kernel)]; kernel_rfl) | (rw [if_neg (by decide +kernel)]; exact ⟨rfl, rfl⟩))
    (fun os started H enc _ => lifted os started H enc)

end Go.Proofs.Ytbfgfeggiicmbaa.tileLooksP
