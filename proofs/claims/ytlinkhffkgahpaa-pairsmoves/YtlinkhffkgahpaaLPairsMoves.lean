/-
  Proved: for every input tattinglaw7.PairsMoves returns true, and its arguments read afterwards as before.
-/
import Derived.Test.YtlinkhffkgahpaaAwake7
import Derived.Test.YtlinkhffkgahpaaArgsI
import Derived.Test.YtlinkhffkgahpaaArgsP
import Derived.Test.YtlinkhffkgahpaaPrU
namespace Go.Proofs.Ytlinkhffkgahpaa.pairsMovesP
open Go.ChangeShapes Go.WideShapes Go.ChangeAt Go.RowKit
open Go.ChangeMaps (open_string shut_string)

set_option maxRecDepth 100000 in
set_option maxHeartbeats 1600000 in
theorem pairsMoves_walk (Al : Option Addr) (nl cl : Nat) (l : List Pr) (i : Int) (j : Int) (w : World) (hl : ArgP w Al nl cl l) (hi : (Lit.int .i64 i).wf = true) (hj : (Lit.int .i64 j).wf = true) :
    Calls Try.prog 9 #[.slice Al nl cl, .int .i64 i, .int .i64 j] w (Yes w) := by
  obtain ⟨hnl, hcl, hml, r_l, hnill, hwfl⟩ := hl
  have Hl := Lib.hid hnl
  have Wl := Lib.hid hwfl
  clear hnl hwfl
  unfold maxLen at hml
  have Wi : Hid (I64 i) := bounds_i64 hi
  clear hi
  have Wj : Hid (I64 j) := bounds_i64 hj
  clear hj
  by_cases gl : nl ≤ 40
  case neg =>
    go_enter Try.func9, Try.ntmps9
    go_wp2_with fail
    refine (awake7 _).mono ?_
    rintro e w1 ⟨rfl, hb1⟩
    go_wp2_with fail
    go_ret
    exact Yes.of hb1
  go_enter Try.func9, Try.ntmps9
  go_wp2_with fail
  refine (awake7 _).mono ?_
  rintro e w1 ⟨rfl, hb⟩
  have B := below_go (Below.refl _ _) hb
  replace r_l := r_l.below B
  have bb := B
  clear B hb
  go_wp2_with fail
  refine (pmove _ _ _ _ i j _ Hl.out (by omega) r_l).mono ?_
  rintro e w2 ⟨v, rfl, hv, hb⟩
  have B := below_go (Below.refl _ _) hb
  replace r_l := r_l.below B
  replace bb := below_go bb B
  clear B hb
  obtain ⟨V_m, c_m, rfl, _, _, r_m, _⟩ := own_sliceS hv
  clear hv
  have Hm : Hid ((moveP l i j).length = nl) := by show _ = _; rw [moveP_length, Hl.out]
  rw [Hm.out]
  go_wp2_with fail
  refine (refMove _ _ _ _ i j _ Hl.out (by omega) r_l).mono ?_
  rintro e w3 ⟨v, rfl, hv, hb⟩
  have B := below_go (Below.refl _ _) hb
  replace r_l := r_l.below B
  replace r_m := r_m.below B
  replace bb := below_go bb B
  clear B hb
  obtain ⟨V_u, c_u, rfl, _, _, r_u, _⟩ := own_sliceS hv
  clear hv
  rw [Hm.out]
  go_wp2_with fail
  refine (samePairs_any _ _ _ _ _ _ _ _ _ Hm.out Hm.out (by omega) r_m r_u).mono ?_
  rintro e w4 ⟨rfl, q, hq⟩
  have hb := below_of hq
  clear hq
  have B := below_go (Below.refl _ _) hb
  replace r_l := r_l.below B
  replace r_m := r_m.below B
  replace r_u := r_u.below B
  replace bb := below_go bb B
  clear B hb
  rw [show decide (moveP l i j = moveP l i j) = true by simp]
  clear r_u
  go_wp2_with fail
  refine (pturn _ _ _ _ _ Hm.out (by omega) r_m).mono ?_
  rintro e w5 ⟨v, rfl, hv, hb⟩
  have B := below_go (Below.refl _ _) hb
  replace r_l := r_l.below B
  replace r_m := r_m.below B
  replace bb := below_go bb B
  clear B hb
  obtain ⟨V_t, c_t, rfl, _, _, r_t, _⟩ := own_sliceS hv
  clear hv
  have Ht : Hid ((turnP (moveP l i j)).length = nl) := by show _ = _; rw [turnP_length, Hm.out]
  rw [Ht.out]
  go_wp2_with fail
  refine (pturn _ _ _ _ _ Hl.out (by omega) r_l).mono ?_
  rintro e w6 ⟨v, rfl, hv, hb⟩
  have B := below_go (Below.refl _ _) hb
  replace r_l := r_l.below B
  replace r_m := r_m.below B
  replace r_t := r_t.below B
  replace bb := below_go bb B
  clear B hb
  obtain ⟨V_v, c_v, rfl, _, _, r_v, _⟩ := own_sliceS hv
  clear hv
  have Hv : Hid ((turnP l).length = nl) := by show _ = _; rw [turnP_length, Hl.out]
  rw [Hv.out]
  go_wp2_with fail
  refine (pmove _ _ _ _ j i _ Hv.out (by omega) r_v).mono ?_
  rintro e w7 ⟨v, rfl, hv, hb⟩
  have B := below_go (Below.refl _ _) hb
  replace r_l := r_l.below B
  replace r_m := r_m.below B
  replace r_t := r_t.below B
  replace r_v := r_v.below B
  replace bb := below_go bb B
  clear B hb
  obtain ⟨V_y, c_y, rfl, _, _, r_y, _⟩ := own_sliceS hv
  clear hv
  have Hy : Hid ((moveP (turnP l) j i).length = nl) := by show _ = _; rw [moveP_length, Hv.out]
  rw [Hy.out]
  go_wp2_with fail
  refine (samePairs_any _ _ _ _ _ _ _ _ _ Ht.out Hy.out (by omega) r_t r_y).mono ?_
  rintro e w8 ⟨rfl, q, hq⟩
  have hb := below_of hq
  clear hq
  have B := below_go (Below.refl _ _) hb
  replace r_l := r_l.below B
  replace r_m := r_m.below B
  replace r_t := r_t.below B
  replace r_v := r_v.below B
  replace r_y := r_y.below B
  replace bb := below_go bb B
  clear B hb
  rw [turn_move l i j, show decide (moveP (turnP l) j i = moveP (turnP l) j i) = true by simp]
  go_wp2_with fail
  go_ret
  exact Yes.of bb

/-! ### The row's step -/
theorem own : ownKnob Try.prog.godebug = none := by kernel_rfl
theorem laidOut : laidOutB Try.prog = true := by kernel_rfl

theorem contract (H : Type) (enc : TypeId × Value → H) (W : World) (base : Nat) (args : Array Value) (ds gs : List (DataW H)) (before : List MemPlace)
    (hval : ∀ (j : Nat) t v, Try.f9.params[j]? = some t → args[j]? = some v → Value.okWide Try.prog W .any base t v)
    (hW : DataW.Whole enc Try.prog Try.f9.params.toList Rows.pairsMovesSpec.vars false W args.toList ds gs before) :
    Calls Try.prog 9 args W fun e W' => ∃ v, e = .returned v ∧ Rows.pairsMovesSpec.post enc Try.prog Try.f9 false true false false W args v W' := by
  have hW' := hW
  obtain ⟨p, q, hA0, hV, rfl, hfz, hnd⟩ := hW
  have hA : DataW.TrodAll enc Try.prog W 0 (fun _ => true) true Try.f9.params.toList args.toList ds p := hA0
  rw [Try.params9] at hA hval
  obtain ⟨v0, vs0, d0, ds0, p0, q0, hargs, rfl, rfl, h0, r0⟩ := trodAll_cons hA
  obtain ⟨v1, vs1, d1, ds1, p1, q1, rfl, rfl, rfl, h1, r1⟩ := trodAll_cons r0
  obtain ⟨v2, vs2, d2, ds2, p2, q2, rfl, rfl, rfl, h2, r2⟩ := trodAll_cons r1
  obtain ⟨rfl, rfl, rfl⟩ := trodAll_nil r2
  obtain rfl : args = #[v0, v1, v2] := by cases args; simp_all
  obtain ⟨rfl, rfl⟩ := trodVars_none hV
  have k0 := h0
  have lt0 : ∀ x ∈ p0, x.block < W.heap.size := by obtain ⟨m, hm⟩ := k0; exact DataW.trod_lt m _ _ _ hm
  obtain ⟨A0, n0, c0, e0⟩ := okWide_slice Try.underlying25 (hval 0 25 v0 rfl rfl)
  subst e0
  obtain ⟨l0, w0⟩ := open_argP Try.underlying25 Try.underlying24 (by kernel_rfl) rfl rfl (by kernel_rfl) (by kernel_rfl) Try.underlying3 Try.underlying3 h0
  have k1 := h1
  have lt1 : ∀ x ∈ p1, x.block < W.heap.size := by obtain ⟨m, hm⟩ := k1; exact DataW.trod_lt m _ _ _ hm
  obtain ⟨a1, e1, _, _, w1⟩ := open_int Try.underlying3 (hval 1 3 v1 rfl rfl) h1
  subst e1
  have k2 := h2
  have lt2 : ∀ x ∈ p2, x.block < W.heap.size := by obtain ⟨m, hm⟩ := k2; exact DataW.trod_lt m _ _ _ hm
  obtain ⟨a2, e2, _, _, w2⟩ := open_int Try.underlying3 (hval 2 3 v2 rfl rfl) h2
  subst e2
  clear hA0
  refine (pairsMoves_walk A0 n0 c0 l0 a1 a2 W w0 w1 w2).mono fun e W' ⟨he, bel⟩ => ?_
  subst he
  exact ⟨_, rfl, _, _, _, [], _, [], hW', trodAll_mk1 (shut_bool Try.underlying4 _), (trodAll_cons_mk (Below.trod laidOut (by kernel_rfl) (of_decide_eq_true (by kernel_rfl)) k0 bel lt0) (trodAll_cons_mk (Below.trod laidOut (by kernel_rfl) (of_decide_eq_true (by kernel_rfl)) k1 bel lt1) (trodAll_cons_mk (Below.trod laidOut (by kernel_rfl) (of_decide_eq_true (by kernel_rfl)) k2 bel lt2) trodAll_mk0))), rfl, bel.frame _, fun h => by cases h⟩

set_option maxRecDepth 100000 in
theorem lifted (os : Os) (started : os.Started) (H : Type) (enc : TypeId × Value → H) :
    ReturnsInHanded {} Try.checked os 9 .any (Rows.pairsMovesSpec.pre6 enc Try.prog Try.f9 Rows.pairsMovesRow.domain false) (Rows.pairsMovesSpec.post enc Try.prog Try.f9 false true false false) := by
  refine returnsInHanded_of_change (C := Try.checked) own started (by kernel_rfl) Try.func9
    (ChangeSpec.witness6 (enc := enc) (C := Try.checked) false ⟨#[], #[.slice none 0 0, .int .i64 0, .int .i64 0], []⟩ 8 (by kernel_rfl) (by kernel_rfl) (by kernel_rfl) (by kernel_rfl)) ?_
  intro W base args ds gs before hval hW _ _
  exact contract H enc W base args ds gs before hval hW

/-- The statement. -/
theorem proved : Rows.PairsMovesSaid :=
  OpenClaim.holds_of_wide 9 Try.f9 rfl rfl rfl rfl rfl rfl rfl ⟨rfl, rfl, rfl, rfl, rfl⟩ rfl rfl rfl rfl rfl (by kernel_rfl) Try.func9 (by kernel_rfl)
    (of_decide_eq_true (by kernel_rfl)) (by unfold Func.isWrapper; first | (rw [if_pos (by decide +kernel)]; kernel_rfl) | (rw [if_neg (by decide +kernel)]; exact ⟨rfl, rfl⟩))
    (fun os started H enc _ => lifted os started H enc)

end Go.Proofs.Ytlinkhffkgahpaa.pairsMovesP
