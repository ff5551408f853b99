/-
  Proved: for every input tattinglaw21.CrochRow returns true, and its arguments read afterwards as before.
-/
import Derived.Test.YtokgabijjgndgaaM33
import Derived.Test.YtokgabijjgndgaaM21
namespace Go.Proofs.Ytokgabijjgndgaa.crochRowP
open Go.ChangeShapes Go.WideShapes Go.ChangeAt Go.RowKit
open Go.ChangeMaps (open_string shut_string)

set_option maxRecDepth 100000 in
set_option maxHeartbeats 1600000 in
theorem crochRow_walk (Av : Option Addr) (nv cv : Nat) (v : List Nat) (Au : Option Addr) (nu cu : Nat) (u : List Nat) (m : Int) (w : World) (hv : ArgU w Av nv cv v) (hu : ArgU w Au nu cu u) (hm : (Lit.int .i64 m).wf = true) :
    Calls Try.prog 4 #[.slice Av nv cv, .slice Au nu cu, .int .i64 m] w (Yes w) := by
  obtain ⟨hnv, hcv, hmv, r_v, hnilv, hwfv⟩ := hv
  have Hv := Lib.hid hnv
  have Wv := Lib.hid hwfv
  clear hnv hwfv
  unfold maxLen at hmv
  obtain ⟨hnu, hcu, hmu, r_u, hnilu, hwfu⟩ := hu
  have Hu := Lib.hid hnu
  have Wu := Lib.hid hwfu
  clear hnu hwfu
  unfold maxLen at hmu
  have Wm : Hid (I64 m) := bounds_i64 hm
  clear hm
  by_cases gv : nv ≤ 6
  case neg =>
    go_enter Try.func4, Try.ntmps4
    go_wp2_with fail
    refine (awake21 _).mono ?_
    rintro e w1 ⟨rfl, hb1⟩
    go_wp2_with fail
    go_ret
    exact Yes.of hb1
  by_cases gu : nu ≤ 6
  case neg =>
    go_enter Try.func4, Try.ntmps4
    go_wp2_with fail
    refine (awake21 _).mono ?_
    rintro e w1 ⟨rfl, hb1⟩
    go_wp2_with fail
    go_ret
    exact Yes.of hb1
  by_cases gm : m ≤ 400
  case neg =>
    go_enter Try.func4, Try.ntmps4
    go_wp2_with fail
    refine (awake21 _).mono ?_
    rintro e w1 ⟨rfl, hb1⟩
    go_wp2_with fail
    go_ret
    exact Yes.of hb1
  have hWl := wds_le m
  go_enter Try.func4, Try.ntmps4
  go_wp2_with fail
  refine (awake21 _).mono ?_
  rintro e w1 ⟨rfl, hb⟩
  have B := below_go (Below.refl _ _) hb
  replace r_v := r_v.below B
  replace r_u := r_u.below B
  have bb := B
  clear B hb
  go_wp2_with fail
  refine (crow_any _ _ nv nu cv cu v u m _ Hv.out Hu.out (by omega) (by omega) hcv (by unfold maxLen; omega) Wm.out r_v r_u Wv.out Wu.out).mono ?_
  intro e w2 hv
  obtain ⟨A_x, c_x, x_x, rfl, h_x, hc_x, hm_x, w_x, b_x, r_x, hb⟩ := madeV_words hv
  clear hv
  have B := below_go (Below.refl _ _) hb
  replace r_v := r_v.below B
  replace r_u := r_u.below B
  replace bb := below_go bb B
  clear B hb
  go_wp2_with fail
  refine (rother_any _ _ nv nu cv cu v u m _ Hv.out Hu.out r_v r_u Wv.out Wu.out).mono ?_
  intro e w3 hv
  obtain ⟨A_y, c_y, x_y, rfl, h_y, hc_y, hm_y, w_y, b_y, r_y, hb⟩ := madeV_words hv
  clear hv
  have B := below_go (Below.refl _ _) hb
  replace r_v := r_v.below B
  replace r_u := r_u.below B
  replace r_x := r_x.below B
  replace bb := below_go bb B
  clear B hb
  have EXY : Hid (x_x = x_y) := made_same h_x h_y w_x w_y b_x b_y (fun _ _ => rfl)
  clear w_x w_y b_x b_y
  clear r_v
  clear r_u
  go_wp2_with fail
  refine (sameW_same A_x A_y (wdsVc3 m) c_x c_y x_x x_y _ h_x h_y (by omega) r_x r_y EXY.out).mono ?_
  rintro e w4 ⟨rfl, q, hq⟩
  have hb := below_of hq
  clear hq
  have B := below_go (Below.refl _ _) hb
  replace r_x := r_x.below B
  replace r_y := r_y.below B
  replace bb := below_go bb B
  clear B hb
  go_wp2_with fail
  go_ret
  exact Yes.of bb

/-! ### The row's step -/
theorem own : ownKnob Try.prog.godebug = none := by kernel_rfl
theorem laidOut : laidOutB Try.prog = true := by kernel_rfl

set_option maxRecDepth 100000 in
theorem contract (H : Type) (enc : TypeId × Value → H) (W : World) (base : Nat) (args : Array Value) (ds gs : List (DataW H)) (before : List MemPlace)
    (hval : ∀ (j : Nat) t v, Try.f4.params[j]? = some t → args[j]? = some v → Value.okWide Try.prog W .any base t v)
    (hW : DataW.Whole enc Try.prog Try.f4.params.toList Rows.crochRowSpec.vars false W args.toList ds gs before) :
    Calls Try.prog 4 args W fun e W' => ∃ v, e = .returned v ∧ Rows.crochRowSpec.post enc Try.prog Try.f4 false true false false W args v W' := by
  have hW' := hW
  obtain ⟨p, q, hA0, hV, rfl, hfz, hnd⟩ := hW
  have hA : DataW.TrodAll enc Try.prog W 0 (fun _ => true) true Try.f4.params.toList args.toList ds p := hA0
  rw [Try.params4] at hA hval
  obtain ⟨v0, vs0, d0, ds0, p0, q0, hargs, rfl, rfl, h0, r0⟩ := trodAll_cons hA
  obtain ⟨v1, vs1, d1, ds1, p1, q1, rfl, rfl, rfl, h1, r1⟩ := trodAll_cons r0
  obtain ⟨v2, vs2, d2, ds2, p2, q2, rfl, rfl, rfl, h2, r2⟩ := trodAll_cons r1
  obtain ⟨rfl, rfl, rfl⟩ := trodAll_nil r2
  obtain rfl : args = #[v0, v1, v2] := by cases args; simp_all
  obtain ⟨rfl, rfl⟩ := trodVars_none hV
  have k0 := h0
  have lt0 : ∀ x ∈ p0, x.block < W.heap.size := by obtain ⟨m, hm⟩ := k0; exact DataW.trod_lt m _ _ _ hm
  obtain ⟨A0, n0, c0, e0⟩ := okWide_slice Try.underlying22 (hval 0 22 v0 rfl rfl)
  subst e0
  obtain ⟨l0, w0⟩ := open_argU Try.underlying22 Try.underlying24 (by kernel_rfl) h0
  have k1 := h1
  have lt1 : ∀ x ∈ p1, x.block < W.heap.size := by obtain ⟨m, hm⟩ := k1; exact DataW.trod_lt m _ _ _ hm
  obtain ⟨A1, n1, c1, e1⟩ := okWide_slice Try.underlying22 (hval 1 22 v1 rfl rfl)
  subst e1
  obtain ⟨l1, w1⟩ := open_argU Try.underlying22 Try.underlying24 (by kernel_rfl) h1
  have k2 := h2
  have lt2 : ∀ x ∈ p2, x.block < W.heap.size := by obtain ⟨m, hm⟩ := k2; exact DataW.trod_lt m _ _ _ hm
  obtain ⟨a2, e2, _, _, w2⟩ := open_int Try.underlying3 (hval 2 3 v2 rfl rfl) h2
  subst e2
  clear hA0
  refine (crochRow_walk A0 n0 c0 l0 A1 n1 c1 l1 a2 W w0 w1 w2).mono fun e W' ⟨he, bel⟩ => ?_
  subst he
  exact ⟨_, rfl, _, _, _, [], _, [], hW', trodAll_mk1 (shut_bool Try.underlying4 _), (trodAll_cons_mk (Below.trod laidOut (by kernel_rfl) (of_decide_eq_true (by kernel_rfl)) k0 bel lt0) (trodAll_cons_mk (Below.trod laidOut (by kernel_rfl) (of_decide_eq_true (by kernel_rfl)) k1 bel lt1) (trodAll_cons_mk (Below.trod laidOut (by kernel_rfl) (of_decide_eq_true (by kernel_rfl)) k2 bel lt2) trodAll_mk0))), rfl, bel.frame _, fun h => by cases h⟩

set_option maxRecDepth 100000 in
theorem lifted (os : Os) (started : os.Started) (H : Type) (enc : TypeId × Value → H) :
    ReturnsInHanded {} Try.checked os 4 .any (Rows.crochRowSpec.pre6 enc Try.prog Try.f4 Rows.crochRowRow.domain false) (Rows.crochRowSpec.post enc Try.prog Try.f4 false true false false) := by
  refine returnsInHanded_of_change (C := Try.checked) own started (by kernel_rfl) Try.func4
    (ChangeSpec.witness6 (enc := enc) (C := Try.checked) false ⟨#[], #[.slice none 0 0, .slice none 0 0, .int .i64 0], []⟩ 8 (by kernel_rfl) (by kernel_rfl) (by kernel_rfl) (by kernel_rfl)) ?_
  intro W base args ds gs before hval hW _ _
  exact contract H enc W base args ds gs before hval hW

/-- The statement. -/
theorem proved : Rows.CrochRowSaid :=
  OpenClaim.holds_of_wide 4 Try.f4 rfl rfl rfl rfl rfl rfl rfl ⟨rfl, rfl, rfl, rfl, rfl⟩ rfl rfl rfl rfl rfl (by kernel_rfl) Try.func4 (by kernel_rfl)
    (of_decide_eq_true (by kernel_rfl)) (by unfold Func.isWrapper; first | (rw [if_pos (by decide +kernel)]; kernel_rfl) | (rw [if_neg (by decide +kernel)]; exact ⟨rfl, rfl⟩))
    (fun os started H enc _ => lifted os started H enc)

end Go.Proofs.Ytokgabijjgndgaa.crochRowP
