/-
  Proved: for every input tattinglaw21.CrochMonotone returns true, and its arguments read afterwards as before.
-/
import Derived.Test.YtokgabijjgndgaaM33
import Derived.Test.YtokgabijjgndgaaM34
import Derived.Test.YtokgabijjgndgaaM5
import Derived.Test.YtokgabijjgndgaaM17
import Derived.Test.YtokgabijjgndgaaM18
namespace Go.Proofs.Ytokgabijjgndgaa.crochMonotoneP
open Go.ChangeShapes Go.WideShapes Go.ChangeAt Go.RowKit
open Go.ChangeMaps (open_string shut_string)

/-- The head of a round. -/
def MoRel (nb : Nat) (w : World) (i : Value) (wr : World) : Prop := ∃ j : Nat, j ≤ nb + 1 ∧ i = .int .i64 (j : Int) ∧ w = wr
/-- Up to each place the next row has as many zeros, or one more. -/
theorem mono_at {x y : List Int} {s : Int} {W : Nat} {p u q : List Nat} (hN : y.length ≤ 64 * W) (hp : ∀ j, bt p j = rowsF y.length (alikeAt x y) x.length j) (hu : ∀ j, bt u j = (decide (j < 64 * W) && decide (y[j]? = some s))) (hq : ∀ j, bt q j = (decide (j < 64 * W) && rowF y.length (bt p) (bt u) j)) (j : Nat) (hj : j ≤ y.length) :
    ∃ P Q, cnt (bt p) j + P = j ∧ cnt (bt q) j + Q = j ∧ P ≤ Q ∧ Q ≤ P + 1 := by
  have hx : (x ++ [s])[x.length]? = some s := by simp
  have h1 : ∀ j, j < y.length → bt p j = vB (x ++ [s]) y x.length j := fun j hj => by
    rw [hp j, rows_are (x := x) (y := y) (fun _ _ _ => rfl) _ j hj, vB_snoc x y s (Nat.le_refl _)]
  have h2 : ∀ j, j < y.length → bt u j = alikeAt (x ++ [s]) y x.length j := fun j hj => by
    rw [hu j, decide_eq_true (show j < 64 * W by omega), Bool.true_and, mask_alike hx]
  have h3 : ∀ j, j < y.length → bt q j = vB (x ++ [s]) y (x.length + 1) j := fun j hj => by
    rw [hq j, rowF_words hN, row_next h1 h2 j hj]
  have k1 := vB_count (x := x ++ [s]) (y := y) (i := x.length) (k := fun j => cnt (fun j => vB (x ++ [s]) y x.length j) j) rfl (fun j => rfl) j
  have k2 := vB_count (x := x ++ [s]) (y := y) (i := x.length + 1) (k := fun j => cnt (fun j => vB (x ++ [s]) y (x.length + 1) j) j) rfl (fun j => rfl) j
  have h4 := px_v (x ++ [s]) y x.length j
  refine ⟨px (x ++ [s]) y x.length j, px (x ++ [s]) y (x.length + 1) j, ?_, ?_, h4.1, h4.2⟩
  · rw [cnt_congrX j (fun i hi => h1 i (by omega))]; exact k1
  · rw [cnt_congrX j (fun i hi => h3 i (by omega))]; exact k2

set_option maxRecDepth 100000 in
set_option maxHeartbeats 3200000 in
theorem crochMonotone_walk (Aa : Option Addr) (na ca : Nat) (a : List Int) (Ab : Option Addr) (nb cb : Nat) (b : List Int) (c : Int) (w : World) (ha : ArgI w Aa na ca a) (hb : ArgI w Ab nb cb b) (hc : (Lit.int .i64 c).wf = true) :
    Calls Try.prog 8 #[.slice Aa na ca, .slice Ab nb cb, .int .i64 c] w (Yes w) := by
  obtain ⟨hna, hca, hma, r_a, hnila, hwfa⟩ := ha
  have Ha := Lib.hid hna
  have Wa := Lib.hid hwfa
  clear hna hwfa
  unfold maxLen at hma
  obtain ⟨hnb, hcb, hmb, r_b, hnilb, hwfb⟩ := hb
  have Hb := Lib.hid hnb
  have Wb := Lib.hid hwfb
  clear hnb hwfb
  unfold maxLen at hmb
  have Wc : Hid (I64 c) := bounds_i64 hc
  clear hc
  by_cases ga : na ≤ 40
  case neg =>
    go_enter Try.func8, Try.ntmps8
    go_wp2_with fail
    refine (awake21 _).mono ?_
    rintro e w1 ⟨rfl, hb1⟩
    go_wp2_with fail
    go_ret
    exact Yes.of hb1
  by_cases gb : nb ≤ 130
  case neg =>
    go_enter Try.func8, Try.ntmps8
    go_wp2_with fail
    refine (awake21 _).mono ?_
    rintro e w1 ⟨rfl, hb1⟩
    go_wp2_with fail
    go_ret
    exact Yes.of hb1
  go_enter Try.func8, Try.ntmps8
  go_wp2_with fail
  refine (awake21 _).mono ?_
  rintro e w1 ⟨rfl, hb⟩
  have B := below_go (Below.refl _ _) hb
  replace r_a := r_a.below B
  replace r_b := r_b.below B
  have bb := B
  clear B hb
  go_wp2_with fail
  refine (few_any _ na _ a 3 _ Ha.out (by omega) (by decide) (by decide) r_a).mono ?_
  rintro e w2 ⟨v, rfl, hv, hb⟩
  have Hx : Hid ((few 3 a).length = na) := by show _ = _; rw [few_length, Ha.out]
  have Wx := Lib.hid (few_wf 3 (by decide) (by decide) a)
  rw [Hx.out] at hv
  clear r_a
  replace r_b := r_b.below hb
  replace bb := below_go bb hb
  clear hb
  obtain ⟨V_x, c_x, rfl, hq_x, hx_x, r_x, hnil_x⟩ := own_slice hv
  clear hv
  generalize few 3 a = x at *
  go_wp2_with fail
  refine (few_any _ nb _ b 3 _ Hb.out (by omega) (by decide) (by decide) r_b).mono ?_
  rintro e w3 ⟨v, rfl, hv, hb⟩
  have Hy : Hid ((few 3 b).length = nb) := by show _ = _; rw [few_length, Hb.out]
  have Wy := Lib.hid (few_wf 3 (by decide) (by decide) b)
  rw [Hy.out] at hv
  clear r_b
  replace r_x := r_x.below hb
  replace bb := below_go bb hb
  clear hb
  obtain ⟨V_y, c_y, rfl, hq_y, hx_y, r_y, hnil_y⟩ := own_slice hv
  clear hv
  generalize few 3 b = y at *
  have hWl := wds_le (nb : Int)
  have hwm := wid_nat (n := nb) (by omega)
  have HNW : Hid (nb ≤ 64 * wdsVc3 (nb : Int)) := by have := wds_wid (nb : Int); rw [hwm] at this; exact this
  have HWM := Lib.hid hwm
  obtain ⟨W, hW⟩ : ∃ W, wdsVc3 (nb : Int) = W := ⟨_, rfl⟩
  have HW := Lib.hid hW
  rw [hW] at hWl HNW
  clear hwm hW
  go_wp2_with fail
  refine (crows_any V_x V_y na nb c_x c_y x y _ Hx.out Hy.out (by omega) (by omega) r_x r_y Wx.out Wy.out).mono ?_
  intro e w4 hv
  obtain ⟨A_r, c_r, rfl, hc_r, hm_r, r_r, hb⟩ := hv
  have B := below_go (Below.refl _ _) hb
  replace r_x := r_x.below B
  replace r_y := r_y.below B
  replace bb := below_go bb B
  clear B hb
  rw [HW.out] at r_r
  obtain ⟨gr, orr, A_p, c_p, x_p, rfl, q_p, hc_p, hm_p, h_p, w_p, b_p, r_p⟩ := r_r.cell (k := na) (by omega)
  have ni : (na : Int) < (na : Int) + 1 := by omega
  clear r_r
  clear r_x
  go_wp2_with fail
  refine (few_any _ 1 1 [c] 3 _ rfl (by decide) (by decide) (by decide) (row_lit (iv [c]) 3 (by simp))).mono ?_
  rintro e w5 ⟨v, rfl, hv, hb⟩
  have B := below_go (below_al (Below.refl _ _) _) hb
  replace r_y := r_y.below B
  replace r_p := r_p.below B
  replace bb := below_go bb B
  clear B hb
  rw [show few 3 [c] = [c % 3] by rfl] at hv
  obtain ⟨V_f, c_f, rfl, _, _, r_f, _⟩ := own_slice hv
  clear hv
  obtain ⟨g_f, o_f, rfl, q_f⟩ := r_f.int (k := 0) (by simp)
  simp only [List.getElem_cons_zero, Nat.add_zero] at q_f
  generalize c % 3 = s at *
  clear r_f
  go_wp2_with fail
  refine (refMask_any V_y nb c_y y s _ Hy.out (by omega) r_y).mono ?_
  intro e w6 hv
  rw [HW.out] at hv
  obtain ⟨A_u, c_u, x_u, rfl, h_u, hc_u, hm_u, w_u, b_u, r_u, hb⟩ := madeV_words hv
  clear hv
  have B := below_go (Below.refl _ _) hb
  clear r_y
  replace r_p := r_p.below B
  replace bb := below_go bb B
  clear B hb
  go_wp2_with fail
  refine (crow_any A_p A_u W W c_p c_u x_p x_u (nb : Int) _ h_p h_u hWl hWl hc_p hm_p (i64_small (by omega)) r_p r_u w_p w_u).mono ?_
  intro e w7 hv
  rw [HW.out, HWM.out] at hv
  obtain ⟨A_q, c_q, x_q, rfl, h_q, hc_q, hm_q, w_q, b_q, r_q, hb⟩ := madeV_words hv
  clear hv
  have B := below_go (Below.refl _ _) hb
  replace r_p := r_p.below B
  replace r_u := r_u.below B
  replace bb := below_go bb B
  clear B hb
  have HM : Hid (∀ j, j ≤ nb → ∃ P Q : Nat, cnt (bt x_p) j + P = j ∧ cnt (bt x_q) j + Q = j ∧ P ≤ Q ∧ Q ≤ P + 1) := by
    have hyl : y.length = nb := Hy.out
    subst hyl
    exact fun j hj => mono_at (x := x) (y := y) (s := s) HNW.out (by rw [Hx.out]; exact b_p) b_u b_q j hj
  have HP := Lib.hid r_p
  have HQ := Lib.hid r_q
  have HB := Lib.hid bb
  clear r_p r_q r_u bb b_p b_u b_q w_u q_p q_f ni
  go_wp2_with fail
  go_loopw [12] (fun i wr => MoRel nb w7 i wr) (fun i _ => nb + 1 - (RowKit.intOf i).toNat)
  case atStart => exact ⟨0, Nat.zero_le _, rfl, rfl⟩
  case round =>
    obtain ⟨j, hj, rfl, rfl⟩ := hrel
    by_cases hlt : j ≤ nb
    · obtain ⟨P, Q, e1, e2, e3, e4⟩ := HM.out j hlt
      have hwj := wid_nat (n := j) (by omega)
      have hC1 := count_any A_p W c_p x_p (j : Int) w7 h_p HP.out w_p
      have hC2 := count_any A_q W c_q x_q (j : Int) w7 h_q HQ.out w_q
      rw [hwj] at hC1 hC2
      generalize cnt (bt x_p) j = N1 at *
      generalize cnt (bt x_q) j = N2 at *
      have z1 : (j : Int) - (N1 : Int) = (P : Int) := by omega
      have z2 : (j : Int) - (N2 : Int) = (Q : Int) := by omega
      have z3 : ¬ ((Q : Int) < (P : Int)) := by omega
      have z4 : ¬ ((P : Int) + 1 < (Q : Int)) := by omega
      have z5 : (j : Int) ≤ (nb : Int) := by omega
      have R : Hid (MoRel nb w7 (.int .i64 ((j + 1 : Nat) : Int)) w7) := ⟨j + 1, by omega, rfl, rfl⟩
      clear hwj e1 e2
      go_wp2_with fail
      refine hC1.mono ?_
      rintro e v1 ⟨rfl, e1⟩
      subst e1
      clear hC1
      go_wp2_with fail
      refine hC2.mono ?_
      rintro e v2 ⟨rfl, e1⟩
      subst e1
      clear hC2
      go_wp2_with fail
      go_roundw
      case rel => first | exact R.out | ((repeat apply Exists.intro); exact ⟨R.out, rfl⟩)
      case measure => simp [RowKit.intOf]; omega
    · have z1 : ¬ ((j : Int) ≤ (nb : Int)) := by omega
      go_wp2_with fail
      go_ret
      exact Yes.of HB.out

/-! ### The row's step -/
theorem own : ownKnob Try.prog.godebug = none := by kernel_rfl
theorem laidOut : laidOutB Try.prog = true := by kernel_rfl

set_option maxRecDepth 100000 in
theorem contract (H : Type) (enc : TypeId × Value → H) (W : World) (base : Nat) (args : Array Value) (ds gs : List (DataW H)) (before : List MemPlace)
    (hval : ∀ (j : Nat) t v, Try.f8.params[j]? = some t → args[j]? = some v → Value.okWide Try.prog W .any base t v)
    (hW : DataW.Whole enc Try.prog Try.f8.params.toList Rows.crochMonotoneSpec.vars false W args.toList ds gs before) :
    Calls Try.prog 8 args W fun e W' => ∃ v, e = .returned v ∧ Rows.crochMonotoneSpec.post enc Try.prog Try.f8 false true false false W args v W' := by
  have hW' := hW
  obtain ⟨p, q, hA0, hV, rfl, hfz, hnd⟩ := hW
  have hA : DataW.TrodAll enc Try.prog W 0 (fun _ => true) true Try.f8.params.toList args.toList ds p := hA0
  rw [Try.params8] at hA hval
  obtain ⟨v0, vs0, d0, ds0, p0, q0, hargs, rfl, rfl, h0, r0⟩ := trodAll_cons hA
  obtain ⟨v1, vs1, d1, ds1, p1, q1, rfl, rfl, rfl, h1, r1⟩ := trodAll_cons r0
  obtain ⟨v2, vs2, d2, ds2, p2, q2, rfl, rfl, rfl, h2, r2⟩ := trodAll_cons r1
  obtain ⟨rfl, rfl, rfl⟩ := trodAll_nil r2
  obtain rfl : args = #[v0, v1, v2] := by cases args; simp_all
  obtain ⟨rfl, rfl⟩ := trodVars_none hV
  have k0 := h0
  have lt0 : ∀ x ∈ p0, x.block < W.heap.size := by obtain ⟨m, hm⟩ := k0; exact DataW.trod_lt m _ _ _ hm
  obtain ⟨A0, n0, c0, e0⟩ := okWide_slice Try.underlying27 (hval 0 27 v0 rfl rfl)
  subst e0
  obtain ⟨l0, w0⟩ := open_argI Try.underlying27 Try.underlying3 (by kernel_rfl) h0
  have k1 := h1
  have lt1 : ∀ x ∈ p1, x.block < W.heap.size := by obtain ⟨m, hm⟩ := k1; exact DataW.trod_lt m _ _ _ hm
  obtain ⟨A1, n1, c1, e1⟩ := okWide_slice Try.underlying27 (hval 1 27 v1 rfl rfl)
  subst e1
  obtain ⟨l1, w1⟩ := open_argI Try.underlying27 Try.underlying3 (by kernel_rfl) h1
  have k2 := h2
  have lt2 : ∀ x ∈ p2, x.block < W.heap.size := by obtain ⟨m, hm⟩ := k2; exact DataW.trod_lt m _ _ _ hm
  obtain ⟨a2, e2, _, _, w2⟩ := open_int Try.underlying3 (hval 2 3 v2 rfl rfl) h2
  subst e2
  clear hA0
  refine (crochMonotone_walk A0 n0 c0 l0 A1 n1 c1 l1 a2 W w0 w1 w2).mono fun e W' ⟨he, bel⟩ => ?_
  subst he
  exact ⟨_, rfl, _, _, _, [], _, [], hW', trodAll_mk1 (shut_bool Try.underlying4 _), (trodAll_cons_mk (Below.trod laidOut (by kernel_rfl) (of_decide_eq_true (by kernel_rfl)) k0 bel lt0) (trodAll_cons_mk (Below.trod laidOut (by kernel_rfl) (of_decide_eq_true (by kernel_rfl)) k1 bel lt1) (trodAll_cons_mk (Below.trod laidOut (by kernel_rfl) (of_decide_eq_true (by kernel_rfl)) k2 bel lt2) trodAll_mk0))), rfl, bel.frame _, fun h => by cases h⟩

set_option maxRecDepth 100000 in
theorem lifted (os : Os) (started : os.Started) (H : Type) (enc : TypeId × Value → H) :
    ReturnsInHanded {} Try.checked os 8 .any (Rows.crochMonotoneSpec.pre6 enc Try.prog Try.f8 Rows.crochMonotoneRow.domain false) (Rows.crochMonotoneSpec.post enc Try.prog Try.f8 false true false false) := by
  refine returnsInHanded_of_change (C := Try.checked) own started (by kernel_rfl) Try.func8
    (ChangeSpec.witness6 (enc := enc) (C := Try.checked) false ⟨#[], #[.slice none 0 0, .slice none 0 0, .int .i64 0], []⟩ 8 (by kernel_rfl) (by kernel_rfl) (by kernel_rfl) (by kernel_rfl)) ?_
  intro W base args ds gs before hval hW _ _
  exact contract H enc W base args ds gs before hval hW

/-- The statement. -/
theorem proved : Rows.CrochMonotoneSaid :=
  OpenClaim.holds_of_wide 8 Try.f8 rfl rfl rfl rfl rfl rfl rfl ⟨rfl, rfl, rfl, rfl, rfl⟩ rfl rfl rfl rfl rfl (by kernel_rfl) Try.func8 (by kernel_rfl)
    (of_decide_eq_true (by kernel_rfl)) (by unfold Func.isWrapper; first | (rw [if_pos (by decide +kernel)]; kernel_rfl) | (rw [if_neg (by decide +kernel)]; exact ⟨rfl, rfl⟩))
    (fun os started H enc _ => lifted os started H enc)

end Go.Proofs.Ytokgabijjgndgaa.crochMonotoneP
