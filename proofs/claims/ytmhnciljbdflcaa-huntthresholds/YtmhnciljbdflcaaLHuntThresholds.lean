/-
  Proved: for every input tattinglaw16.HuntThresholds returns true, and its arguments read afterwards as before.
-/
import Derived.Test.YtmhnciljbdflcaaM28
import Derived.Test.YtmhnciljbdflcaaM30
namespace Go.Proofs.Ytmhnciljbdflcaa.huntThresholdsP
open Go.ChangeShapes Go.WideShapes Go.ChangeAt Go.RowKit
open Go.ChangeMaps (open_string shut_string)

set_option maxRecDepth 100000 in
set_option maxHeartbeats 1600000 in
theorem huntThresholds_walk (Aa : Option Addr) (na ca : Nat) (a : List Int) (Ab : Option Addr) (nb cb : Nat) (b : List Int) (w : World) (ha : ArgI w Aa na ca a) (hb : ArgI w Ab nb cb b) :
    Calls Try.prog 6 #[.slice Aa na ca, .slice Ab nb cb] w (Yes w) := by
  obtain ⟨hna, hca, hma, r_a, hnila, hwfa⟩ := ha
  have Ha := Lib.hid hna
  have Wa := Lib.hid hwfa
  clear hna hwfa
  unfold maxLen at hma
  obtain ⟨hnb, hcb, hmb, r_b, hnilb, hwfb⟩ := hb
  have Hb := Lib.hid hnb
  have Wb := Lib.hid hwfb
  clear hnb hwfb
  unfold maxLen at hmb
  by_cases ga : na ≤ 40
  case neg =>
    go_enter Try.func6, Try.ntmps6
    go_wp2_with fail
    refine (awake16 _).mono ?_
    rintro e w1 ⟨rfl, hb1⟩
    go_wp2_with fail
    go_ret
    exact Yes.of hb1
  by_cases gb : nb ≤ 40
  case neg =>
    go_enter Try.func6, Try.ntmps6
    go_wp2_with fail
    refine (awake16 _).mono ?_
    rintro e w1 ⟨rfl, hb1⟩
    go_wp2_with fail
    go_ret
    exact Yes.of hb1
  go_enter Try.func6, Try.ntmps6
  go_wp2_with fail
  refine (awake16 _).mono ?_
  rintro e w1 ⟨rfl, hb⟩
  have B := below_go (Below.refl _ _) hb
  replace r_a := r_a.below B
  replace r_b := r_b.below B
  have bb := B
  clear B hb
  go_wp2_with fail
  refine (few_any _ na _ a 4 _ Ha.out (by omega) (by decide) (by decide) r_a).mono ?_
  rintro e w2 ⟨v, rfl, hv, hb⟩
  have Hx : Hid ((few 4 a).length = na) := by show _ = _; rw [few_length, Ha.out]
  have Wx := Lib.hid (few_wfN (n := 4) (by decide) (by decide) a)
  rw [Hx.out] at hv
  clear r_a
  replace r_b := r_b.below hb
  replace bb := below_go bb hb
  clear hb
  obtain ⟨V_x, c_x, rfl, hq_x, hx_x, r_x, hnil_x⟩ := own_slice hv
  clear hv
  generalize few 4 a = x at *
  go_wp2_with fail
  refine (few_any _ nb _ b 4 _ Hb.out (by omega) (by decide) (by decide) r_b).mono ?_
  rintro e w3 ⟨v, rfl, hv, hb⟩
  have Hy : Hid ((few 4 b).length = nb) := by show _ = _; rw [few_length, Hb.out]
  have Wy := Lib.hid (few_wfN (n := 4) (by decide) (by decide) b)
  rw [Hy.out] at hv
  clear r_b
  replace r_x := r_x.below hb
  replace bb := below_go bb hb
  clear hb
  obtain ⟨V_y, c_y, rfl, hq_y, hx_y, r_y, hnil_y⟩ := own_slice hv
  clear hv
  generalize few 4 b = y at *
  have hTle : (thrL (px x y na) nb).length ≤ nb := by have := thr_le x y x.length; rw [Hx.out, Hy.out] at this; exact this
  have HPl : Hid (∀ (k : Nat) (z : Int), (thrL (px x y na) nb)[k]? = some z → ∃ j : Nat, z = (j : Int) ∧ j < nb ∧ lcs x (y.take j) = k ∧ lcs x (y.take (j + 1)) = k + 1) := fun k z h => by
    have := thr_place (x := x) (y := y) (k := k) (z := z)
    rw [Hx.out, Hy.out] at this
    exact this h
  go_wp2_with fail
  refine (hthr_any _ _ na nb _ _ x y _ Hx.out Hy.out (by omega) (by omega) r_x r_y Wx.out Wy.out).mono ?_
  rintro e w4 ⟨v, rfl, hv, hb⟩
  have B := below_go (Below.refl _ _) hb
  replace r_x := r_x.below B
  replace r_y := r_y.below B
  replace bb := below_go bb B
  clear B hb
  obtain ⟨V_t, c_t, rfl, _, _, r_t, _⟩ := own_slice hv
  clear hv
  go_wp2_with fail
  refine (rthr_any _ _ na nb _ _ x y _ Hx.out Hy.out (by omega) (by omega) r_x r_y).mono ?_
  rintro e w5 ⟨v, rfl, hv, hb⟩
  have B := below_go (Below.refl _ _) hb
  replace r_x := r_x.below B
  replace r_y := r_y.below B
  replace r_t := r_t.below B
  replace bb := below_go bb B
  clear B hb
  obtain ⟨V_u, c_u, rfl, _, _, r_u, _⟩ := own_slice hv
  clear hv
  generalize thrL (px x y na) nb = X at *
  obtain ⟨M, hM⟩ : ∃ M, X.length = M := ⟨_, rfl⟩
  rw [hM] at hTle
  rw [hM]
  have HM := Lib.hid hM
  clear hM
  go_wp2_with fail
  refine (sameInts_any _ _ M M _ _ X X _ HM.out HM.out (by omega) r_t r_u).mono ?_
  rintro e w6 ⟨rfl, q, hq⟩
  have hb := below_of hq
  clear hq
  have B := below_go (Below.refl _ _) hb
  replace r_x := r_x.below B
  replace r_y := r_y.below B
  replace r_t := r_t.below B
  replace r_u := r_u.below B
  replace bb := below_go bb B
  clear B hb
  rw [show decide (X = X) = true by simp]
  clear r_u
  have HB := Lib.hid bb
  clear bb
  go_wp2_with fail
  go_loopw [8] (fun i wr => ∃ k : Nat, k ≤ M ∧ i = .int .i64 (k : Int) ∧ Below w6.heap.size w6 wr) (fun i _ => M - (RowKit.intOf i).toNat)
  case atStart => exact ⟨0, Nat.zero_le _, rfl, Below.refl _ _⟩
  case round =>
    obtain ⟨k, hk, rfl, hbr⟩ := hrel
    by_cases hlt : k < M
    · have hlt' : k < X.length := by rw [HM.out]; exact hlt
      obtain ⟨gt, ot, rfl, hct⟩ := (r_t.below hbr).int hlt'
      obtain ⟨j, hj, hjm, hk0, hk1⟩ := HPl.out k _ (List.getElem?_eq_getElem hlt')
      rw [hj] at hct
      have rx := r_x.below hbr
      have ry := r_y.below hbr
      obtain ⟨s1, r1⟩ := slice_to _ nb c_y (j + 1) y wr ry (by omega)
      obtain ⟨s2, r2⟩ := slice_to _ nb c_y j y wr ry (by omega)
      rw [Int.natCast_succ] at s1
      have C1 := Lib.hid (len_any _ _ na (j + 1) c_x c_y x (y.take (j + 1)) wr Hx.out (by rw [List.length_take, Hy.out]; omega) (by omega) (by omega) rx r1)
      rw [hk1] at C1
      have C2 := Lib.hid (fun w2 (hb : Below wr.heap.size wr w2) => len_any _ _ na j c_x c_y x (y.take j) w2 Hx.out (by rw [List.length_take, Hy.out]; omega) (by omega) (by omega) (rx.below hb) (r2.below hb))
      rw [hk0] at C2
      clear hj rx ry r1 r2 hk0 hk1 hlt'
      go_wp2_with fail
      refine C1.out.mono ?_
      rintro e wa ⟨rfl, hba⟩
      have hct2 := (hba.cell (p := ⟨gt, ot + k, none⟩) (World.block_lt_of_cell? _ _ hct)).trans hct
      have D := Lib.hid (C2.out wa hba)
      have hbra := below_go hbr hba
      clear C1 C2 hct hba hbr
      go_wp2_with fail
      refine D.out.mono ?_
      rintro e wb ⟨rfl, hbb⟩
      have R := below_go hbra hbb
      clear D hct2 hbb hbra s1 s2
      go_wp2_with fail
      go_roundw
      case rel => exact ⟨k + 1, hlt, by go_num, R⟩
      case measure => first | omega | (simp [RowKit.intOf] <;> omega)
    · have bb := below_go HB.out hbr
      clear hbr
      go_wp2_with fail
      go_ret
      exact Yes.of bb

/-! ### The row's step -/
theorem own : ownKnob Try.prog.godebug = none := by kernel_rfl
theorem laidOut : laidOutB Try.prog = true := by kernel_rfl

set_option maxRecDepth 100000 in
theorem contract (H : Type) (enc : TypeId × Value → H) (W : World) (base : Nat) (args : Array Value) (ds gs : List (DataW H)) (before : List MemPlace)
    (hval : ∀ (j : Nat) t v, Try.f6.params[j]? = some t → args[j]? = some v → Value.okWide Try.prog W .any base t v)
    (hW : DataW.Whole enc Try.prog Try.f6.params.toList Rows.huntThresholdsSpec.vars false W args.toList ds gs before) :
    Calls Try.prog 6 args W fun e W' => ∃ v, e = .returned v ∧ Rows.huntThresholdsSpec.post enc Try.prog Try.f6 false true false false W args v W' := by
  have hW' := hW
  obtain ⟨p, q, hA0, hV, rfl, hfz, hnd⟩ := hW
  have hA : DataW.TrodAll enc Try.prog W 0 (fun _ => true) true Try.f6.params.toList args.toList ds p := hA0
  rw [Try.params6] at hA hval
  obtain ⟨v0, vs0, d0, ds0, p0, q0, hargs, rfl, rfl, h0, r0⟩ := trodAll_cons hA
  obtain ⟨v1, vs1, d1, ds1, p1, q1, rfl, rfl, rfl, h1, r1⟩ := trodAll_cons r0
  obtain ⟨rfl, rfl, rfl⟩ := trodAll_nil r1
  obtain rfl : args = #[v0, v1] := by cases args; simp_all
  obtain ⟨rfl, rfl⟩ := trodVars_none hV
  have k0 := h0
  have lt0 : ∀ x ∈ p0, x.block < W.heap.size := by obtain ⟨m, hm⟩ := k0; exact DataW.trod_lt m _ _ _ hm
  obtain ⟨A0, n0, c0, e0⟩ := okWide_slice Try.underlying25 (hval 0 25 v0 rfl rfl)
  subst e0
  obtain ⟨l0, w0⟩ := open_argI Try.underlying25 Try.underlying3 (by kernel_rfl) h0
  have k1 := h1
  have lt1 : ∀ x ∈ p1, x.block < W.heap.size := by obtain ⟨m, hm⟩ := k1; exact DataW.trod_lt m _ _ _ hm
  obtain ⟨A1, n1, c1, e1⟩ := okWide_slice Try.underlying25 (hval 1 25 v1 rfl rfl)
  subst e1
  obtain ⟨l1, w1⟩ := open_argI Try.underlying25 Try.underlying3 (by kernel_rfl) h1
  clear hA0
  refine (huntThresholds_walk A0 n0 c0 l0 A1 n1 c1 l1 W w0 w1).mono fun e W' ⟨he, bel⟩ => ?_
  subst he
  exact ⟨_, rfl, _, _, _, [], _, [], hW', trodAll_mk1 (shut_bool Try.underlying4 _), (trodAll_cons_mk (Below.trod laidOut (by kernel_rfl) (of_decide_eq_true (by kernel_rfl)) k0 bel lt0) (trodAll_cons_mk (Below.trod laidOut (by kernel_rfl) (of_decide_eq_true (by kernel_rfl)) k1 bel lt1) trodAll_mk0)), rfl, bel.frame _, fun h => by cases h⟩

set_option maxRecDepth 100000 in
theorem lifted (os : Os) (started : os.Started) (H : Type) (enc : TypeId × Value → H) :
    ReturnsInHanded {} Try.checked os 6 .any (Rows.huntThresholdsSpec.pre6 enc Try.prog Try.f6 Rows.huntThresholdsRow.domain false) (Rows.huntThresholdsSpec.post enc Try.prog Try.f6 false true false false) := by
  refine returnsInHanded_of_change (C := Try.checked) own started (by kernel_rfl) Try.func6
    (ChangeSpec.witness6 (enc := enc) (C := Try.checked) false ⟨#[], #[.slice none 0 0, .slice none 0 0], []⟩ 8 (by kernel_rfl) (by kernel_rfl) (by kernel_rfl) (by kernel_rfl)) ?_
  intro W base args ds gs before hval hW _ _
  exact contract H enc W base args ds gs before hval hW

/-- The statement. -/
theorem proved : Rows.HuntThresholdsSaid :=
  OpenClaim.holds_of_wide 6 Try.f6 rfl rfl rfl rfl rfl rfl rfl ⟨rfl, rfl, rfl, rfl, rfl⟩ rfl rfl rfl rfl rfl (by kernel_rfl) Try.func6 (by kernel_rfl)
    (of_decide_eq_true (by kernel_rfl)) (by unfold Func.isWrapper; first | (rw [if_pos (by decide +kernel)]; kernel_rfl) | (rw [if_neg (by decide +kernel)]; exact ⟨rfl, rfl⟩))
    (fun os started H enc _ => lifted os started H enc)

end Go.Proofs.Ytmhnciljbdflcaa.huntThresholdsP
