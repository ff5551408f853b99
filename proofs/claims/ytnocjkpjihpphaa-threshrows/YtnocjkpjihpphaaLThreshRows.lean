/-
  Proved: for every input tattinglaw15.ThreshRows returns true, and its arguments read afterwards as before.
-/
import Derived.Test.YtnocjkpjihpphaaAwake15
import Derived.Test.YtnocjkpjihpphaaArgsI
namespace Go.Proofs.Ytnocjkpjihpphaa.threshRowsP
open Go.ChangeShapes Go.WideShapes Go.ChangeAt Go.RowKit
open Go.ChangeMaps (open_string shut_string)

set_option maxRecDepth 100000 in
set_option maxHeartbeats 1600000 in
theorem threshRows_walk (Al : Option Addr) (nl cl : Nat) (l : List Int) (Ajs : Option Addr) (njs cjs : Nat) (js : List Int) (w : World) (hl : ArgI w Al nl cl l) (hjs : ArgI w Ajs njs cjs js) :
    Calls Try.prog 5 #[.slice Al nl cl, .slice Ajs njs cjs] w (Yes w) := by
  obtain ⟨hnl, hcl, hml, r_l, hnill, hwfl⟩ := hl
  have Hl := Lib.hid hnl
  have Wl := Lib.hid hwfl
  clear hnl hwfl
  unfold maxLen at hml
  obtain ⟨hnjs, hcjs, hmjs, r_js, hniljs, hwfjs⟩ := hjs
  have Hjs := Lib.hid hnjs
  have Wjs := Lib.hid hwfjs
  clear hnjs hwfjs
  unfold maxLen at hmjs
  by_cases gl : nl ≤ 30
  case neg =>
    go_enter Try.func5, Try.ntmps5
    go_wp2_with fail
    refine (awake15 _).mono ?_
    rintro e w1 ⟨rfl, hb1⟩
    go_wp2_with fail
    go_ret
    exact Yes.of hb1
  by_cases gjs : njs ≤ 30
  case neg =>
    go_enter Try.func5, Try.ntmps5
    go_wp2_with fail
    refine (awake15 _).mono ?_
    rintro e w1 ⟨rfl, hb1⟩
    go_wp2_with fail
    go_ret
    exact Yes.of hb1
  go_enter Try.func5, Try.ntmps5
  go_wp2_with fail
  refine (awake15 _).mono ?_
  rintro e w1 ⟨rfl, hb⟩
  have B := below_go (Below.refl _ _) hb
  replace r_l := r_l.below B
  replace r_js := r_js.below B
  have bb := B
  clear B hb
  go_wp2_with fail
  refine (rising_any _ nl _ l _ Hl.out (by omega) r_l).mono ?_
  rintro e w2 ⟨v, rfl, hv, hb⟩
  have At := Lib.hid (asc_ris l)
  have Nt := ris_length l
  rw [Hl.out] at Nt
  clear r_l
  replace r_js := r_js.below hb
  replace bb := below_go bb hb
  clear hb
  obtain ⟨V_t, c_t, rfl, hq_t, hx_t, r_t, hnil_t⟩ := own_slice hv
  clear hv
  generalize risL l = t at *
  obtain ⟨N, hN⟩ : ∃ N, t.length = N := ⟨_, rfl⟩
  rw [hN] at Nt hq_t
  rw [hN]
  have Ht := Lib.hid hN
  clear hN
  go_wp2_with fail
  refine (rising_any _ njs _ js _ Hjs.out (by omega) r_js).mono ?_
  rintro e w3 ⟨v, rfl, hv, hb⟩
  have Au := Lib.hid (asc_ris js)
  have Nu := ris_length js
  rw [Hjs.out] at Nu
  clear r_js
  replace r_t := r_t.below hb
  replace bb := below_go bb hb
  clear hb
  obtain ⟨V_u, c_u, rfl, hq_u, hx_u, r_u, hnil_u⟩ := own_slice hv
  clear hv
  generalize risL js = u at *
  obtain ⟨M, hM⟩ : ∃ M, u.length = M := ⟨_, rfl⟩
  rw [hM] at Nu hq_u
  rw [hM]
  have Hu := Lib.hid hM
  clear hM
  have Kle := row_length t u
  have AX := Lib.hid (asc_row At.out u)
  rw [Ht.out, Hu.out] at Kle
  go_wp2_with fail
  refine (trow_any V_t V_u N M c_t c_u t u _ Ht.out Hu.out (by omega) At.out hnil_t r_t r_u).mono ?_
  rintro e w4 ⟨v, rfl, hv, hb⟩
  have B := below_go (Below.refl _ _) hb
  replace r_t := r_t.below B
  replace r_u := r_u.below B
  replace bb := below_go bb B
  clear B hb
  obtain ⟨V_x, c_x, rfl, _, _, r_x, _⟩ := own_slice hv
  clear hv
  go_wp2_with fail
  refine (rrow_any V_t V_u N M c_t c_u t u _ Ht.out Hu.out (by omega) hnil_t r_t r_u).mono ?_
  rintro e w5 ⟨v, rfl, hv, hb⟩
  have B := below_go (Below.refl _ _) hb
  replace r_t := r_t.below B
  replace r_u := r_u.below B
  replace r_x := r_x.below B
  replace bb := below_go bb B
  clear B hb
  obtain ⟨V_y, c_y, rfl, _, _, r_y, _⟩ := own_slice hv
  clear hv
  generalize rowTh t u = X at *
  obtain ⟨Q, hQ⟩ : ∃ Q, X.length = Q := ⟨_, rfl⟩
  rw [hQ] at Kle
  rw [hQ]
  have HX := Lib.hid hQ
  clear hQ
  go_wp2_with fail
  refine (sameInts_any _ _ Q Q _ _ X X _ HX.out HX.out (by omega) r_x r_y).mono ?_
  rintro e w6 ⟨rfl, q, hq⟩
  have hb := below_of hq
  clear hq
  have B := below_go (Below.refl _ _) hb
  replace r_t := r_t.below B
  replace r_u := r_u.below B
  replace r_x := r_x.below B
  replace r_y := r_y.below B
  replace bb := below_go bb B
  clear B hb
  rw [show decide (X = X) = true by simp]
  go_wp2_with fail
  refine (rises_yes _ Q _ X _ HX.out (by omega) AX.out r_x).mono ?_
  rintro e w7 ⟨rfl, q, hq⟩
  have hb := below_of hq
  clear hq
  have B := below_go (Below.refl _ _) hb
  replace r_t := r_t.below B
  replace r_u := r_u.below B
  replace r_x := r_x.below B
  replace r_y := r_y.below B
  replace bb := below_go bb B
  clear B hb
  go_wp2_with fail
  go_ret
  exact Yes.of bb

/-! ### The row's step -/
theorem own : ownKnob Try.prog.godebug = none := by kernel_rfl
theorem laidOut : laidOutB Try.prog = true := by kernel_rfl

set_option maxRecDepth 100000 in
theorem contract (H : Type) (enc : TypeId × Value → H) (W : World) (base : Nat) (args : Array Value) (ds gs : List (DataW H)) (before : List MemPlace)
    (hval : ∀ (j : Nat) t v, Try.f5.params[j]? = some t → args[j]? = some v → Value.okWide Try.prog W .any base t v)
    (hW : DataW.Whole enc Try.prog Try.f5.params.toList Rows.threshRowsSpec.vars false W args.toList ds gs before) :
    Calls Try.prog 5 args W fun e W' => ∃ v, e = .returned v ∧ Rows.threshRowsSpec.post enc Try.prog Try.f5 false true false false W args v W' := by
  have hW' := hW
  obtain ⟨p, q, hA0, hV, rfl, hfz, hnd⟩ := hW
  have hA : DataW.TrodAll enc Try.prog W 0 (fun _ => true) true Try.f5.params.toList args.toList ds p := hA0
  rw [Try.params5] at hA hval
  obtain ⟨v0, vs0, d0, ds0, p0, q0, hargs, rfl, rfl, h0, r0⟩ := trodAll_cons hA
  obtain ⟨v1, vs1, d1, ds1, p1, q1, rfl, rfl, rfl, h1, r1⟩ := trodAll_cons r0
  obtain ⟨rfl, rfl, rfl⟩ := trodAll_nil r1
  obtain rfl : args = #[v0, v1] := by cases args; simp_all
  obtain ⟨rfl, rfl⟩ := trodVars_none hV
  have k0 := h0
  have lt0 : ∀ x ∈ p0, x.block < W.heap.size := by obtain ⟨m, hm⟩ := k0; exact DataW.trod_lt m _ _ _ hm
  obtain ⟨A0, n0, c0, e0⟩ := okWide_slice Try.underlying22 (hval 0 22 v0 rfl rfl)
  subst e0
  obtain ⟨l0, w0⟩ := open_argI Try.underlying22 Try.underlying3 (by kernel_rfl) h0
  have k1 := h1
  have lt1 : ∀ x ∈ p1, x.block < W.heap.size := by obtain ⟨m, hm⟩ := k1; exact DataW.trod_lt m _ _ _ hm
  obtain ⟨A1, n1, c1, e1⟩ := okWide_slice Try.underlying22 (hval 1 22 v1 rfl rfl)
  subst e1
  obtain ⟨l1, w1⟩ := open_argI Try.underlying22 Try.underlying3 (by kernel_rfl) h1
  clear hA0
  refine (threshRows_walk A0 n0 c0 l0 A1 n1 c1 l1 W w0 w1).mono fun e W' ⟨he, bel⟩ => ?_
  subst he
  exact ⟨_, rfl, _, _, _, [], _, [], hW', trodAll_mk1 (shut_bool Try.underlying4 _), (trodAll_cons_mk (Below.trod laidOut (by kernel_rfl) (of_decide_eq_true (by kernel_rfl)) k0 bel lt0) (trodAll_cons_mk (Below.trod laidOut (by kernel_rfl) (of_decide_eq_true (by kernel_rfl)) k1 bel lt1) trodAll_mk0)), rfl, bel.frame _, fun h => by cases h⟩

set_option maxRecDepth 100000 in
theorem lifted (os : Os) (started : os.Started) (H : Type) (enc : TypeId × Value → H) :
    ReturnsInHanded {} Try.checked os 5 .any (Rows.threshRowsSpec.pre6 enc Try.prog Try.f5 Rows.threshRowsRow.domain false) (Rows.threshRowsSpec.post enc Try.prog Try.f5 false true false false) := by
  refine returnsInHanded_of_change (C := Try.checked) own started (by kernel_rfl) Try.func5
    (ChangeSpec.witness6 (enc := enc) (C := Try.checked) false ⟨#[], #[.slice none 0 0, .slice none 0 0], []⟩ 8 (by kernel_rfl) (by kernel_rfl) (by kernel_rfl) (by kernel_rfl)) ?_
  intro W base args ds gs before hval hW _ _
  exact contract H enc W base args ds gs before hval hW

/-- The statement. -/
theorem proved : Rows.ThreshRowsSaid :=
  OpenClaim.holds_of_wide 5 Try.f5 rfl rfl rfl rfl rfl rfl rfl ⟨rfl, rfl, rfl, rfl, rfl⟩ rfl rfl rfl rfl rfl (by kernel_rfl) Try.func5 (by kernel_rfl)
    (of_decide_eq_true (by kernel_rfl)) (by unfold Func.isWrapper; first | (rw [if_pos (by decide +kernel)]; kernel_rfl) | (rw [if_neg (by decide +kernel)]; exact ⟨rfl, rfl⟩))
    (fun os started H enc _ => lifted os started H enc)

end Go.Proofs.Ytnocjkpjihpphaa.threshRowsP
