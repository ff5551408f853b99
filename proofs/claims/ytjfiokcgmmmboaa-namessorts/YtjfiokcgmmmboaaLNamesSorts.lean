/-
  Proved: for every input tattinglaw2.NamesSorts returns true, and its arguments read afterwards as before.
-/
import Derived.Test.YtjfiokcgmmmboaaAwake2
import Derived.Test.YtjfiokcgmmmboaaRefT
import Derived.Test.YtjfiokcgmmmboaaLawKit2
import Derived.Test.YtjfiokcgmmmboaaArgs
namespace Go.Proofs.Ytjfiokcgmmmboaa.namesSortsP
open Go.ChangeShapes Go.WideShapes Go.ChangeAt Go.RowKit
open Go.ChangeMaps (open_string shut_string)

set_option maxHeartbeats 800000 in
theorem namesSorts_walk (A : Option Addr) (n c : Nat) (vs : List Value) (ls : List (List UInt8)) (w : World) (hb : ArgT w A n c vs ls) :
    Calls Try.prog 4 #[.slice A n c] w (Yes w) := by
  obtain ⟨hn, hc, hcm, hr, hbs, hnil⟩ := hb
  have HN := Lib.hid hn
  clear hn
  by_cases hf : fewB ls = true
  · have hl : n ≤ 40 := by rw [← HN.out]; exact fewB_len hf
    have HF := Lib.hid hf
    clear hf
    go_enter Try.func4, Try.ntmps4
    go_wp2_with fail
    refine (awake_yes _).mono ?_
    rintro e w1 ⟨rfl, hb1⟩
    have hr1 := hr.below hb1
    have hbs1 := hbs.below hb1
    go_wp2_with fail
    refine (few_any A n c vs ls _ HN.out (by omega) hbs1.max hr1 hbs1).mono ?_
    rintro e w' ⟨rfl, rfl⟩
    rw [HF.out]
    go_wp2_with fail
    refine (nmSort_any A n c vs ls _ HN.out (by omega) (few_short HF.out) hr1 hbs1).mono ?_
    rintro e w2 ⟨v, xs, rfl, hown2, hbx2, hb2⟩
    obtain ⟨V, cV, rfl, _, _, hV, _⟩ := own_slice hown2
    have hbw2 := hb1.trans (hb2.mono hb1.size)
    have hr2 := hr1.below hb2
    have hbs2 := hbs1.below hb2
    clear hown2
    go_wp2_with fail
    refine (refSort_any A n c vs ls _ HN.out (by omega) (few_short HF.out) hr2 hbs2).mono ?_
    rintro e w3 ⟨u, ys, rfl, hown3, hby3, hb3⟩
    obtain ⟨U, cU, rfl, _, _, hU, _⟩ := own_slice hown3
    have hbw3 := hbw2.trans (hb3.mono hbw2.size)
    have hV3 := hV.below hb3
    have hbx3 := hbx2.below hb3
    have hby := hby3.below hb3
    have hlen := sortU_length ls
    rw [HN.out] at hlen
    clear hown3 hby3 hV hbx2 hr1 hr2 hbs1 hbs2 hb2 hb3
    go_wp2_with fail
    refine (same_any V U _ _ cV cU xs ys (sortU ls) (sortU ls) _ rfl rfl (by omega) hV3 hbx3 hU hby).mono ?_
    rintro e w4 ⟨rfl, q, rfl⟩
    rw [show decide (sortU ls = sortU ls) = true by simp]
    go_wp2_with fail
    go_ret
    exact ⟨rfl, below_drewN hbw3 q⟩
  · have hf' : fewB ls = false := by simpa using hf
    have HF := Lib.hid hf'
    clear hf hf'
    go_enter Try.func4, Try.ntmps4
    go_wp2_with fail
    refine (awake_yes _).mono ?_
    rintro e w1 ⟨rfl, hb1⟩
    have hr1 := hr.below hb1
    have hbs1 := hbs.below hb1
    go_wp2_with fail
    refine (few_any A n c vs ls _ HN.out (by omega) hbs1.max hr1 hbs1).mono ?_
    rintro e w' ⟨rfl, rfl⟩
    rw [HF.out]
    go_wp2_with fail
    go_ret
    exact ⟨rfl, hb1⟩

/-! ### The row's step -/
theorem own : ownKnob Try.prog.godebug = none := by kernel_rfl
theorem laidOut : laidOutB Try.prog = true := by kernel_rfl

theorem contract (H : Type) (enc : TypeId × Value → H) (W : World) (base : Nat) (args : Array Value) (ds gs : List (DataW H)) (before : List MemPlace)
    (hval : ∀ (j : Nat) t v, Try.f4.params[j]? = some t → args[j]? = some v → Value.okWide Try.prog W .any base t v)
    (hW : DataW.Whole enc Try.prog Try.f4.params.toList Rows.namesSortsSpec.vars false W args.toList ds gs before) :
    Calls Try.prog 4 args W fun e W' => ∃ v, e = .returned v ∧ Rows.namesSortsSpec.post enc Try.prog Try.f4 false true false false W args v W' := by
  have hW' := hW
  obtain ⟨p, q, hA0, hV, rfl, hfz, hnd⟩ := hW
  have hA : DataW.TrodAll enc Try.prog W 0 (fun _ => true) true Try.f4.params.toList args.toList ds p := hA0
  rw [Try.params4] at hA hval
  obtain ⟨v0, vs0, d0, ds0, p0, q0, hargs, rfl, rfl, h0, r0⟩ := trodAll_cons hA
  obtain ⟨rfl, rfl, rfl⟩ := trodAll_nil r0
  obtain rfl : args = #[v0] := by cases args; simp_all
  obtain ⟨rfl, rfl⟩ := trodVars_none hV
  have k0 := h0
  have lt0 : ∀ x ∈ p0, x.block < W.heap.size := by obtain ⟨m, hm⟩ := k0; exact DataW.trod_lt m _ _ _ hm
  obtain ⟨A0, n0, c0, e0⟩ := okWide_slice Try.underlying22 (hval 0 22 v0 rfl rfl)
  subst e0
  obtain ⟨us0, l0, w0, r0d⟩ := open_argT Try.underlying22 Try.underlying24 Try.underlying5 (by kernel_rfl) (by kernel_rfl) h0
  clear hA0
  refine (namesSorts_walk A0 n0 c0 us0 l0 W w0).mono fun e W' ⟨he, bel⟩ => ?_
  subst he
  exact ⟨_, rfl, _, _, _, [], _, [], hW', trodAll_mk1 (shut_bool Try.underlying4 _), (trodAll_cons_mk (Below.trod laidOut (by kernel_rfl) (of_decide_eq_true (by kernel_rfl)) k0 bel lt0) trodAll_mk0), rfl, bel.frame _, fun h => by cases h⟩

set_option maxRecDepth 100000 in
theorem lifted (os : Os) (started : os.Started) (H : Type) (enc : TypeId × Value → H) :
    ReturnsInHanded {} Try.checked os 4 .any (Rows.namesSortsSpec.pre6 enc Try.prog Try.f4 Rows.namesSortsRow.domain false) (Rows.namesSortsSpec.post enc Try.prog Try.f4 false true false false) := by
  refine returnsInHanded_of_change (C := Try.checked) own started (by kernel_rfl) Try.func4
    (ChangeSpec.witness6 (enc := enc) (C := Try.checked) false ⟨#[], #[.slice none 0 0], []⟩ 8 (by kernel_rfl) (by kernel_rfl) (by kernel_rfl) (by kernel_rfl)) ?_
  intro W base args ds gs before hval hW _ _
  exact contract H enc W base args ds gs before hval hW

/-- The statement. -/
theorem proved : Rows.NamesSortsSaid :=
  OpenClaim.holds_of_wide 4 Try.f4 rfl rfl rfl rfl rfl rfl rfl ⟨rfl, rfl, rfl, rfl, rfl⟩ rfl rfl rfl rfl rfl (by kernel_rfl) Try.func4 (by kernel_rfl)
    (of_decide_eq_true (by kernel_rfl)) (by unfold Func.isWrapper; first | (rw [if_pos (by decide +kernel)]; kernel_rfl) | (rw [if_neg (by decide +kernel)]; exact ⟨rfl, rfl⟩))
    (fun os started H enc _ => lifted os started H enc)

end Go.Proofs.Ytjfiokcgmmmboaa.namesSortsP
