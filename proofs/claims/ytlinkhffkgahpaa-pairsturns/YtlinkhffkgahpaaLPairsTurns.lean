/-
  Proved: for every input tattinglaw7.PairsTurns returns true, and its arguments read afterwards as before.
-/
import Derived.Test.YtlinkhffkgahpaaAwake7
import Derived.Test.YtlinkhffkgahpaaArgsI
import Derived.Test.YtlinkhffkgahpaaArgsP
import Derived.Test.YtlinkhffkgahpaaPrU
namespace Go.Proofs.Ytlinkhffkgahpaa.pairsTurnsP
open Go.ChangeShapes Go.WideShapes Go.ChangeAt Go.RowKit
open Go.ChangeMaps (open_string shut_string)

theorem iv_replicate (n : Nat) : iv (List.replicate n 0) = List.replicate n (.int .i64 0) := by simp [iv]

set_option maxRecDepth 100000 in
set_option maxHeartbeats 1600000 in
theorem pairsTurns_walk (Aa : Option Addr) (na ca : Nat) (a : List Int) (Ab : Option Addr) (nb cb : Nat) (b : List Int) (Al : Option Addr) (nl cl : Nat) (l : List Pr) (t0 : Int) (w : World) (ha : ArgI w Aa na ca a) (hb : ArgI w Ab nb cb b) (hl : ArgP w Al nl cl l) (ht0 : (Lit.int .u8 t0).wf = true) :
    Calls Try.prog 7 #[.slice Aa na ca, .slice Ab nb cb, .slice Al nl cl, .int .u8 t0] w (Yes w) := by
  obtain ⟨hna, hca, hma, r_a, hnila, hwfa⟩ := ha
  have Ha := Lib.hid hna
  have Wa := Lib.hid hwfa
  clear hna hwfa
  unfold maxLen at hma
  obtain ⟨hnb, hcb, hmb, r_b, hnilb, hwfb⟩ := hb
  have Hb := Lib.hid hnb
  have Wb := Lib.hid hwfb
  clear hnb hwfb
  unfold maxLen at hmb
  obtain ⟨hnl, hcl, hml, r_l, hnill, hwfl⟩ := hl
  have Hl := Lib.hid hnl
  have Wl := Lib.hid hwfl
  clear hnl hwfl
  unfold maxLen at hml
  by_cases ga : na ≤ 30
  case neg =>
    go_enter Try.func7, Try.ntmps7
    go_wp2_with fail
    refine (awake7 _).mono ?_
    rintro e w1 ⟨rfl, hb1⟩
    go_wp2_with fail
    go_ret
    exact Yes.of hb1
  by_cases gb : nb ≤ 30
  case neg =>
    go_enter Try.func7, Try.ntmps7
    go_wp2_with fail
    refine (awake7 _).mono ?_
    rintro e w1 ⟨rfl, hb1⟩
    go_wp2_with fail
    go_ret
    exact Yes.of hb1
  by_cases gl : nl ≤ 30
  case neg =>
    go_enter Try.func7, Try.ntmps7
    go_wp2_with fail
    refine (awake7 _).mono ?_
    rintro e w1 ⟨rfl, hb1⟩
    go_wp2_with fail
    go_ret
    exact Yes.of hb1
  obtain ⟨i0, hi, hz0, hz1, hz2⟩ := info_parts Try.infoInt
  obtain ⟨K, hK, hK1, hK2⟩ : ∃ K : Nat, K ≤ 9 ∧ t0 % 10 = (K : Int) ∧ t0.tmod 10 = (K : Int) := by
    have hb := bounds_u8 ht0
    exact ⟨(t0 % 10).toNat, by omega, by omega, by rw [Int.tmod_eq_emod_of_nonneg hb.1]; omega⟩
  have B8 := bounds_u8 ht0
  clear ht0
  go_enter Try.func7, Try.ntmps7
  go_wp2_with fail
  refine (awake7 _).mono ?_
  rintro e w1 ⟨rfl, hb⟩
  have B := below_go (Below.refl _ _) hb
  replace r_a := r_a.below B
  replace r_b := r_b.below B
  replace r_l := r_l.below B
  have bb := B
  clear B hb
  go_wp2_with fail
  refine (pturn _ _ _ _ _ Hl.out (by omega) r_l).mono ?_
  rintro e w2 ⟨v, rfl, hv, hb⟩
  have B := below_go (Below.refl _ _) hb
  replace r_a := r_a.below B
  replace r_b := r_b.below B
  replace r_l := r_l.below B
  replace bb := below_go bb B
  clear B hb
  obtain ⟨V_t, c_t, rfl, _, _, r_t, _⟩ := own_sliceS hv
  clear hv
  have Ht : Hid ((turnP l).length = nl) := by show _ = _; rw [turnP_length, Hl.out]
  rw [Ht.out]
  go_wp2_with fail
  refine (pmove _ _ _ _ (K : Int) ((K + 1 : Nat) : Int) _ Hl.out (by omega) r_l).mono ?_
  rintro e w3 ⟨v, rfl, hv, hb⟩
  have B := below_go (Below.refl _ _) hb
  replace r_a := r_a.below B
  replace r_b := r_b.below B
  replace r_l := r_l.below B
  replace r_t := r_t.below B
  replace bb := below_go bb B
  clear B hb
  obtain ⟨V_m, c_m, rfl, _, _, r_m, _⟩ := own_sliceS hv
  clear hv
  have Hm : Hid ((moveP l (K : Int) ((K + 1 : Nat) : Int)).length = nl) := by show _ = _; rw [moveP_length, Hl.out]
  rw [Hm.out]
  go_wp2_with (at_make; refine wpList_make_full _ rfl _ _ 22 rfl w3.heap.size 3 i0 (.int .i64 0) 1 Try.underlying22 hi hz0 hz1 .i64 .i64 _ _ K rfl rfl (by simp) (by simp) (by rw [hz2]; omega) (by unfold maxLen; omega) (Nat.le_refl _) ?_)
  intro y1 o1 g1
  have B1 : Below w3.heap.size w3 y1 := (Below.refl _ _).grown g1 (Nat.le_refl _) (fun k hk => by cases hk)
  rw [toList_madeCells_one] at o1
  have q1 := r_a.below B1
  have hs1 := B1.size
  clear g1
  go_wp2_with (at_builtin; refine append_row rfl (.tmp 40) (.tmp 41) 22 rfl w3.heap.size 3 i0 (.int .i64 0) 8 Try.underlying22 hi hz0 hz1 hz2 rfl _ K _ rfl o1 Aa na ca (iv a) rfl (by rw [iv_length, Ha.out]) q1 hnila (iv_one _) (by unfold maxLen; omega) (by omega) hs1 ?_)
  intro z1 y2 o2 g2
  have B2 : Below w3.heap.size w3 y2 := B1.grown g2 hs1 (fun x hx => (o1.lt x hx).1)
  have o3 : y2.ownsRow w3.heap.size 3 1 z1 (K + na) (iv (List.replicate K 0 ++ a)) := by rw [iv_append, iv_replicate]; exact o2
  replace bb := below_go bb B2
  replace r_a := r_a.below B2
  replace r_b := r_b.below B2
  replace r_l := r_l.below B2
  replace r_t := r_t.below B2
  replace r_m := r_m.below B2
  have Hx : Hid ((List.replicate K (0 : Int) ++ a).length = K + na) := by show _ = _; simp [Ha.out]
  obtain ⟨V_x, c_x, rfl, _, _, r_x, _⟩ := own_slice o3
  clear o1 o2 o3 g2 B1 B2 hs1 q1
  generalize hy2 : y2 = wx at *
  clear hy2
  go_wp2_with (at_make; refine wpList_make_full _ rfl _ _ 22 rfl wx.heap.size 3 i0 (.int .i64 0) 1 Try.underlying22 hi hz0 hz1 .i64 .i64 _ _ (K + 1) rfl rfl (by simp) (by simp) (by rw [hz2]; omega) (by unfold maxLen; omega) (Nat.le_refl _) ?_)
  intro y1 o1 g1
  have B1 : Below wx.heap.size wx y1 := (Below.refl _ _).grown g1 (Nat.le_refl _) (fun k hk => by cases hk)
  rw [toList_madeCells_one] at o1
  have q1 := r_b.below B1
  have hs1 := B1.size
  clear g1
  go_wp2_with (at_builtin; refine append_row rfl (.tmp 45) (.tmp 46) 22 rfl wx.heap.size 3 i0 (.int .i64 0) 8 Try.underlying22 hi hz0 hz1 hz2 rfl _ (K + 1) _ rfl o1 Ab nb cb (iv b) rfl (by rw [iv_length, Hb.out]) q1 hnilb (iv_one _) (by unfold maxLen; omega) (by omega) hs1 ?_)
  intro z1 y2 o2 g2
  have B2 : Below wx.heap.size wx y2 := B1.grown g2 hs1 (fun x hx => (o1.lt x hx).1)
  have o3 : y2.ownsRow wx.heap.size 3 1 z1 ((K + 1) + nb) (iv (List.replicate (K + 1) 0 ++ b)) := by rw [iv_append, iv_replicate]; exact o2
  replace bb := below_go bb B2
  replace r_a := r_a.below B2
  replace r_b := r_b.below B2
  replace r_l := r_l.below B2
  replace r_t := r_t.below B2
  replace r_m := r_m.below B2
  replace r_x := r_x.below B2
  have Hy : Hid ((List.replicate (K + 1) (0 : Int) ++ b).length = (K + 1) + nb) := by show _ = _; simp [Hb.out]
  obtain ⟨V_y, c_y, rfl, _, _, r_y, _⟩ := own_slice o3
  clear o1 o2 o3 g2 B1 B2 hs1 q1
  generalize hy2 : y2 = wy at *
  clear hy2
  go_wp2_with fail
  refine (pturn _ _ _ _ _ Ht.out (by omega) r_t).mono ?_
  rintro e w4 ⟨v, rfl, hv, hb⟩
  have B := below_go (Below.refl _ _) hb
  replace r_a := r_a.below B
  replace r_b := r_b.below B
  replace r_l := r_l.below B
  replace r_t := r_t.below B
  replace r_m := r_m.below B
  replace r_x := r_x.below B
  replace r_y := r_y.below B
  replace bb := below_go bb B
  clear B hb
  obtain ⟨V_u, c_u, rfl, _, _, r_u, _⟩ := own_sliceS hv
  clear hv
  rw [turnP_turnP] at r_u ⊢
  rw [Hl.out]
  go_wp2_with fail
  refine (samePairs_any _ _ _ _ _ _ _ _ _ Hl.out Hl.out (by omega) r_u r_l).mono ?_
  rintro e w5 ⟨rfl, q, hq⟩
  have hb := below_of hq
  clear hq
  have B := below_go (Below.refl _ _) hb
  replace r_a := r_a.below B
  replace r_b := r_b.below B
  replace r_l := r_l.below B
  replace r_t := r_t.below B
  replace r_m := r_m.below B
  replace r_x := r_x.below B
  replace r_y := r_y.below B
  replace r_u := r_u.below B
  replace bb := below_go bb B
  clear B hb
  rw [show decide (l = l) = true by simp]
  clear r_u
  go_wp2_with fail
  refine (refTurn _ _ _ _ _ Hl.out (by omega) r_l).mono ?_
  rintro e w6 ⟨v, rfl, hv, hb⟩
  have B := below_go (Below.refl _ _) hb
  replace r_a := r_a.below B
  replace r_b := r_b.below B
  replace r_l := r_l.below B
  replace r_t := r_t.below B
  replace r_m := r_m.below B
  replace r_x := r_x.below B
  replace r_y := r_y.below B
  replace bb := below_go bb B
  clear B hb
  obtain ⟨V_u, c_u, rfl, _, _, r_u, _⟩ := own_sliceS hv
  clear hv
  rw [Ht.out]
  go_wp2_with fail
  refine (samePairs_any _ _ _ _ _ _ _ _ _ Ht.out Ht.out (by omega) r_t r_u).mono ?_
  rintro e w7 ⟨rfl, q, hq⟩
  have hb := below_of hq
  clear hq
  have B := below_go (Below.refl _ _) hb
  replace r_a := r_a.below B
  replace r_b := r_b.below B
  replace r_l := r_l.below B
  replace r_t := r_t.below B
  replace r_m := r_m.below B
  replace r_x := r_x.below B
  replace r_y := r_y.below B
  replace r_u := r_u.below B
  replace bb := below_go bb B
  clear B hb
  rw [show decide (turnP l = turnP l) = true by simp]
  clear r_u
  go_wp2_with fail
  refine (refMove _ _ _ _ (K : Int) ((K + 1 : Nat) : Int) _ Hl.out (by omega) r_l).mono ?_
  rintro e w8 ⟨v, rfl, hv, hb⟩
  have B := below_go (Below.refl _ _) hb
  replace r_a := r_a.below B
  replace r_b := r_b.below B
  replace r_l := r_l.below B
  replace r_t := r_t.below B
  replace r_m := r_m.below B
  replace r_x := r_x.below B
  replace r_y := r_y.below B
  replace bb := below_go bb B
  clear B hb
  obtain ⟨V_u, c_u, rfl, _, _, r_u, _⟩ := own_sliceS hv
  clear hv
  rw [Hm.out]
  go_wp2_with fail
  refine (samePairs_any _ _ _ _ _ _ _ _ _ Hm.out Hm.out (by omega) r_m r_u).mono ?_
  rintro e w9 ⟨rfl, q, hq⟩
  have hb := below_of hq
  clear hq
  have B := below_go (Below.refl _ _) hb
  replace r_a := r_a.below B
  replace r_b := r_b.below B
  replace r_l := r_l.below B
  replace r_t := r_t.below B
  replace r_m := r_m.below B
  replace r_x := r_x.below B
  replace r_y := r_y.below B
  replace r_u := r_u.below B
  replace bb := below_go bb B
  clear B hb
  rw [show decide (moveP l (K : Int) ((K + 1 : Nat) : Int) = moveP l (K : Int) ((K + 1 : Nat) : Int)) = true by simp]
  clear r_u
  go_wp2_with fail
  refine (pgood _ _ _ _ _ _ _ _ _ _ _ _ _ Hb.out Ha.out Ht.out (by omega) r_b r_a r_t).mono ?_
  rintro e w10 ⟨rfl, hb⟩
  have B := below_go (Below.refl _ _) hb
  replace r_a := r_a.below B
  replace r_b := r_b.below B
  replace r_l := r_l.below B
  replace r_t := r_t.below B
  replace r_m := r_m.below B
  replace r_x := r_x.below B
  replace r_y := r_y.below B
  replace bb := below_go bb B
  clear B hb
  rw [good_turn a b l]
  clear r_t
  go_wp2_with fail
  refine (pgood _ _ _ _ _ _ _ _ _ _ _ _ _ Ha.out Hb.out Hl.out (by omega) r_a r_b r_l).mono ?_
  rintro e w11 ⟨rfl, hb⟩
  have B := below_go (Below.refl _ _) hb
  replace r_a := r_a.below B
  replace r_b := r_b.below B
  replace r_l := r_l.below B
  replace r_m := r_m.below B
  replace r_x := r_x.below B
  replace r_y := r_y.below B
  replace bb := below_go bb B
  clear B hb
  cases hg : goodB a b l
  · have E := Lib.hid hg
    clear hg
    go_wp2_with fail
    refine (pgood _ _ _ _ _ _ _ _ _ _ _ _ _ Ha.out Hb.out Hl.out (by omega) r_a r_b r_l).mono ?_
    rintro e w12 ⟨rfl, hb⟩
    have B := below_go (Below.refl _ _) hb
    replace r_a := r_a.below B
    replace r_b := r_b.below B
    replace r_l := r_l.below B
    replace r_m := r_m.below B
    replace r_x := r_x.below B
    replace r_y := r_y.below B
    replace bb := below_go bb B
    clear B hb
    rw [E.out]
    go_wp2_with fail
    go_ret
    exact Yes.of bb
  · have E := Lib.hid hg
    clear hg
    have E2 := Lib.hid (good_move (ra := List.replicate K 0) (rb := List.replicate (K + 1) 0) (i := K) (j := K + 1) (by simp) (by simp) (by rw [Ha.out]; omega) (by rw [Hb.out]; omega) E.out)
    go_wp2_with fail
    refine (pgood _ _ _ _ _ _ _ _ _ _ _ _ _ Ha.out Hb.out Hl.out (by omega) r_a r_b r_l).mono ?_
    rintro e w12 ⟨rfl, hb⟩
    have B := below_go (Below.refl _ _) hb
    replace r_a := r_a.below B
    replace r_b := r_b.below B
    replace r_l := r_l.below B
    replace r_m := r_m.below B
    replace r_x := r_x.below B
    replace r_y := r_y.below B
    replace bb := below_go bb B
    clear B hb
    rw [E.out]
    go_wp2_with fail
    refine (pgood _ _ _ _ _ _ _ _ _ _ _ _ _ Hx.out Hy.out Hm.out (by omega) r_x r_y r_m).mono ?_
    rintro e w13 ⟨rfl, hb⟩
    have B := below_go (Below.refl _ _) hb
    replace r_a := r_a.below B
    replace r_b := r_b.below B
    replace r_l := r_l.below B
    replace r_m := r_m.below B
    replace r_x := r_x.below B
    replace r_y := r_y.below B
    replace bb := below_go bb B
    clear B hb
    rw [E2.out]
    go_wp2_with fail
    go_ret
    exact Yes.of bb

/-! ### The row's step -/
theorem own : ownKnob Try.prog.godebug = none := by kernel_rfl
theorem laidOut : laidOutB Try.prog = true := by kernel_rfl

theorem contract (H : Type) (enc : TypeId × Value → H) (W : World) (base : Nat) (args : Array Value) (ds gs : List (DataW H)) (before : List MemPlace)
    (hval : ∀ (j : Nat) t v, Try.f7.params[j]? = some t → args[j]? = some v → Value.okWide Try.prog W .any base t v)
    (hW : DataW.Whole enc Try.prog Try.f7.params.toList Rows.pairsTurnsSpec.vars false W args.toList ds gs before) :
    Calls Try.prog 7 args W fun e W' => ∃ v, e = .returned v ∧ Rows.pairsTurnsSpec.post enc Try.prog Try.f7 false true false false W args v W' := by
  have hW' := hW
  obtain ⟨p, q, hA0, hV, rfl, hfz, hnd⟩ := hW
  have hA : DataW.TrodAll enc Try.prog W 0 (fun _ => true) true Try.f7.params.toList args.toList ds p := hA0
  rw [Try.params7] at hA hval
  obtain ⟨v0, vs0, d0, ds0, p0, q0, hargs, rfl, rfl, h0, r0⟩ := trodAll_cons hA
  obtain ⟨v1, vs1, d1, ds1, p1, q1, rfl, rfl, rfl, h1, r1⟩ := trodAll_cons r0
  obtain ⟨v2, vs2, d2, ds2, p2, q2, rfl, rfl, rfl, h2, r2⟩ := trodAll_cons r1
  obtain ⟨v3, vs3, d3, ds3, p3, q3, rfl, rfl, rfl, h3, r3⟩ := trodAll_cons r2
  obtain ⟨rfl, rfl, rfl⟩ := trodAll_nil r3
  obtain rfl : args = #[v0, v1, v2, v3] := by cases args; simp_all
  obtain ⟨rfl, rfl⟩ := trodVars_none hV
  have k0 := h0
  have lt0 : ∀ x ∈ p0, x.block < W.heap.size := by obtain ⟨m, hm⟩ := k0; exact DataW.trod_lt m _ _ _ hm
  obtain ⟨A0, n0, c0, e0⟩ := okWide_slice Try.underlying22 (hval 0 22 v0 rfl rfl)
  subst e0
  obtain ⟨l0, w0⟩ := open_argI Try.underlying22 Try.underlying3 (by kernel_rfl) h0
  have k1 := h1
  have lt1 : ∀ x ∈ p1, x.block < W.heap.size := by obtain ⟨m, hm⟩ := k1; exact DataW.trod_lt m _ _ _ hm
  obtain ⟨A1, n1, c1, e1⟩ := okWide_slice Try.underlying22 (hval 1 22 v1 rfl rfl)
  subst e1
  obtain ⟨l1, w1⟩ := open_argI Try.underlying22 Try.underlying3 (by kernel_rfl) h1
  have k2 := h2
  have lt2 : ∀ x ∈ p2, x.block < W.heap.size := by obtain ⟨m, hm⟩ := k2; exact DataW.trod_lt m _ _ _ hm
  obtain ⟨A2, n2, c2, e2⟩ := okWide_slice Try.underlying25 (hval 2 25 v2 rfl rfl)
  subst e2
  obtain ⟨l2, w2⟩ := open_argP Try.underlying25 Try.underlying24 (by kernel_rfl) rfl rfl (by kernel_rfl) (by kernel_rfl) Try.underlying3 Try.underlying3 h2
  have k3 := h3
  have lt3 : ∀ x ∈ p3, x.block < W.heap.size := by obtain ⟨m, hm⟩ := k3; exact DataW.trod_lt m _ _ _ hm
  obtain ⟨a3, e3, _, _, w3⟩ := open_int Try.underlying5 (hval 3 5 v3 rfl rfl) h3
  subst e3
  clear hA0
  refine (pairsTurns_walk A0 n0 c0 l0 A1 n1 c1 l1 A2 n2 c2 l2 a3 W w0 w1 w2 w3).mono fun e W' ⟨he, bel⟩ => ?_
  subst he
  exact ⟨_, rfl, _, _, _, [], _, [], hW', trodAll_mk1 (shut_bool Try.underlying4 _), (trodAll_cons_mk (Below.trod laidOut (by kernel_rfl) (of_decide_eq_true (by kernel_rfl)) k0 bel lt0) (trodAll_cons_mk (Below.trod laidOut (by kernel_rfl) (of_decide_eq_true (by kernel_rfl)) k1 bel lt1) (trodAll_cons_mk (Below.trod laidOut (by kernel_rfl) (of_decide_eq_true (by kernel_rfl)) k2 bel lt2) (trodAll_cons_mk (Below.trod laidOut (by kernel_rfl) (of_decide_eq_true (by kernel_rfl)) k3 bel lt3) trodAll_mk0)))), rfl, bel.frame _, fun h => by cases h⟩

set_option maxRecDepth 100000 in
theorem lifted (os : Os) (started : os.Started) (H : Type) (enc : TypeId × Value → H) :
    ReturnsInHanded {} Try.checked os 7 .any (Rows.pairsTurnsSpec.pre6 enc Try.prog Try.f7 Rows.pairsTurnsRow.domain false) (Rows.pairsTurnsSpec.post enc Try.prog Try.f7 false true false false) := by
  refine returnsInHanded_of_change (C := Try.checked) own started (by kernel_rfl) Try.func7
    (ChangeSpec.witness6 (enc := enc) (C := Try.checked) false ⟨#[], #[.slice none 0 0, .slice none 0 0, .slice none 0 0, .int .u8 0], []⟩ 8 (by kernel_rfl) (by kernel_rfl) (by kernel_rfl) (by kernel_rfl)) ?_
  intro W base args ds gs before hval hW _ _
  exact contract H enc W base args ds gs before hval hW

/-- The statement. -/
theorem proved : Rows.PairsTurnsSaid :=
  OpenClaim.holds_of_wide 7 Try.f7 rfl rfl rfl rfl rfl rfl rfl ⟨rfl, rfl, rfl, rfl, rfl⟩ rfl rfl rfl rfl rfl (by kernel_rfl) Try.func7 (by kernel_rfl)
    (of_decide_eq_true (by kernel_rfl)) (by unfold Func.isWrapper; first | (rw [if_pos (by decide +kernel)]; kernel_rfl) | (rw [if_neg (by decide +kernel)]; exact ⟨rfl, rfl⟩))
    (fun os started H enc _ => lifted os started H enc)

end Go.Proofs.Ytlinkhffkgahpaa.pairsTurnsP
