/-
  Proved: for every input tattinglaw12.DeltaRows returns true, and its arguments read afterwards as before.
-/
import Derived.Test.YtakefhmahngdeaaAwake12
import Derived.Test.YtakefhmahngdeaaArgsI
import Derived.Test.YtakefhmahngdeaaFew
import Derived.Test.YtakefhmahngdeaaRr1
import Derived.Test.YtakefhmahngdeaaDlQ
namespace Go.Proofs.Ytakefhmahngdeaa.deltaRowsP
open Go.ChangeShapes Go.WideShapes Go.ChangeAt Go.RowKit
open Go.ChangeMaps (open_string shut_string)

/-- The head of a round: the sum of so many steps. -/
def DsRel (D : List UInt8) (n : Nat) (w : World) (v i : Value) (wr : World) : Prop := ∃ k : Nat, k ≤ n ∧ i = .int .i64 (k : Int) ∧ v = .int .i64 (sumS D k : Nat) ∧ w = wr

set_option maxRecDepth 100000 in
set_option maxHeartbeats 1600000 in
theorem deltaRows_walk (Aa : Option Addr) (na ca : Nat) (a : List Int) (Ab : Option Addr) (nb cb : Nat) (b : List Int) (w : World) (ha : ArgI w Aa na ca a) (hb : ArgI w Ab nb cb b) :
    Calls Try.prog 8 #[.slice Aa na ca, .slice Ab nb cb] w (Yes w) := by
  obtain ⟨hna, hca, hma, r_a, hnila, hwfa⟩ := ha
  have Ha := Lib.hid hna
  have Wa := Lib.hid hwfa
  clear hna hwfa
  unfold maxLen at hma
  obtain ⟨hnb, hcb, hmb, r_b, hnilb, hwfb⟩ := hb
  have Hb := Lib.hid hnb
  have Wb := Lib.hid hwfb
  clear hnb hwfb
  unfold maxLen at hmb
  by_cases ga : na ≤ 40
  case neg =>
    go_enter Try.func8, Try.ntmps8
    go_wp2_with fail
    refine (awake12 _).mono ?_
    rintro e w1 ⟨rfl, hb1⟩
    go_wp2_with fail
    go_ret
    exact Yes.of hb1
  by_cases gb : nb ≤ 40
  case neg =>
    go_enter Try.func8, Try.ntmps8
    go_wp2_with fail
    refine (awake12 _).mono ?_
    rintro e w1 ⟨rfl, hb1⟩
    go_wp2_with fail
    go_ret
    exact Yes.of hb1
  go_enter Try.func8, Try.ntmps8
  go_wp2_with fail
  refine (awake12 _).mono ?_
  rintro e w1 ⟨rfl, hb⟩
  have B := below_go (Below.refl _ _) hb
  replace r_a := r_a.below B
  replace r_b := r_b.below B
  have bb := B
  clear B hb
  go_wp2_with fail
  refine (few_any _ na _ a 4 _ Ha.out (by omega) (by decide) (by decide) r_a).mono ?_
  rintro e w2 ⟨v, rfl, hv, hb⟩
  have B := below_go (Below.refl _ _) hb
  replace r_a := r_a.below B
  replace r_b := r_b.below B
  replace bb := below_go bb B
  clear B hb
  have Hx : Hid ((few 4 a).length = na) := by show _ = _; rw [few_length, Ha.out]
  rw [Hx.out] at hv
  obtain ⟨V_x, c_x, rfl, hq_x, hm_x, r_x, hnil_x⟩ := own_slice hv
  clear hv
  generalize few 4 a = x at *
  clear r_a
  go_wp2_with fail
  refine (few_any _ nb _ b 4 _ Hb.out (by omega) (by decide) (by decide) r_b).mono ?_
  rintro e w3 ⟨v, rfl, hv, hb⟩
  have B := below_go (Below.refl _ _) hb
  replace r_b := r_b.below B
  replace r_x := r_x.below B
  replace bb := below_go bb B
  clear B hb
  have Hy : Hid ((few 4 b).length = nb) := by show _ = _; rw [few_length, Hb.out]
  rw [Hy.out] at hv
  obtain ⟨V_y, c_y, rfl, hq_y, hm_y, r_y, hnil_y⟩ := own_slice hv
  clear hv
  generalize few 4 b = y at *
  clear r_b
  obtain ⟨t1, t2, t3, t4⟩ := front_steps (a := x) (b := y) Hy.out (by omega)
  have T1 := Lib.hid t1
  have T2 := Lib.hid t2
  have T3 := Lib.hid t3
  have T4 := Lib.hid t4
  have TI := Lib.hid (front_i64 (a := x) (b := y) (by rw [Hy.out]; omega))
  have TL := Lib.hid (fun k => sumS_le (row := frontL x y) (N := nb) k)
  have HF : Hid ((frontL x y).length = nb + 1) := by show _ = _; rw [frontL_length, Hy.out]
  clear t1 t2 t3 t4
  go_wp2_with fail
  refine (rfront_any _ _ na nb _ _ x y _ Hx.out Hy.out (by omega) (by omega) r_x r_y).mono ?_
  rintro e w4 ⟨V_f, rfl, r_f, hb⟩
  have B := below_go (Below.refl _ _) hb
  replace r_x := r_x.below B
  replace r_y := r_y.below B
  replace bb := below_go bb B
  clear B hb
  rw [HF.out]
  generalize frontL x y = F at *
  clear r_x
  clear r_y
  go_wp2_with fail
  refine (of_any _ (nb + 1) _ F _ HF.out (by omega) (Nat.le_refl _) TI.out r_f).mono ?_
  rintro e w5 ⟨v, rfl, hv, hb⟩
  have B := below_go (Below.refl _ _) hb
  replace r_f := r_f.below B
  replace bb := below_go bb B
  clear B hb
  rw [T2.out]
  unfold OwnB at hv
  have HD : Hid ((stpS F nb).length = nb) := stpS_length _ _
  rw [T1.out, HD.out] at hv
  obtain ⟨V_d, c_d, rfl, _, _, r_d, _⟩ := own_slice hv
  clear hv T1 T2
  generalize stpS F nb = D at *
  have hz1 : ((nb : Int) != (nb : Int)) = false := by simp
  go_wp2_with fail
  go_loopw [10, 11] (fun v i wr => DsRel D nb w5 v i wr) (fun _ i _ => nb - (intOf i).toNat)
  case atStart => exact ⟨0, Nat.zero_le _, rfl, rfl, rfl⟩
  case round =>
    obtain ⟨k, hk, rfl, rfl, rfl⟩ := hrel
    by_cases hlt : k < nb
    · obtain ⟨g, o, rfl, hc⟩ := r_d.byte (k := k) (by rw [HD.out]; exact hlt)
      have h1 := TL.out k (by omega)
      have h2 := TL.out (k + 1) (by omega)
      have HS : Hid (sumS D (k + 1) = sumS D k + (D[k]'(by rw [HD.out]; exact hlt)).toNat) := by show sumS D (k + 1) = _; rw [sumS, bget_of (List.getElem?_eq_getElem (by rw [HD.out]; exact hlt))]
      rw [HS.out] at h2
      generalize D[k]'(by rw [HD.out]; exact hlt) = b at *
      have hb8 : b.toNat < 256 := b.toNat_lt
      clear r_d r_f T3 T4 TI TL
      generalize sumS D k = Z at *
      go_wp2_with fail
      go_roundw
      case rel => exact ⟨k + 1, by omega, by go_num, by rw [HS.out]; go_num, rfl⟩
      case measure => simp [intOf]; omega
    · obtain rfl : k = nb := by omega
      obtain ⟨g, o, rfl, hc0⟩ := r_f.int (k := k) (by rw [HF.out]; omega)
      clear hc0
      have hc := r_f.nth (k := k) (by rw [HF.out]; omega)
      rw [← T4.out] at hc
      generalize sumS D k = Z at *
      go_wp2_with fail
      refine (prow_any 0 _ k _ D _ HD.out (by omega) r_d).mono ?_
      rintro e w6 ⟨v, rfl, hv, hb⟩
      have B := below_go (Below.refl _ _) hb
      replace r_f := r_f.below B
      replace r_d := r_d.below B
      replace bb := below_go bb B
      clear B hb
      rw [T3.out, HF.out] at hv
      obtain ⟨V_z, c_z, rfl, _, _, r_z, _⟩ := own_slice hv
      clear hv
      go_wp2_with fail
      refine (sameInts_any _ _ (k + 1) (k + 1) _ _ F F _ HF.out HF.out (by omega) r_z r_f).mono ?_
      rintro e w7 ⟨rfl, q, hq⟩
      have hb := below_of hq
      clear hq
      have B := below_go (Below.refl _ _) hb
      replace r_f := r_f.below B
      replace r_d := r_d.below B
      replace r_z := r_z.below B
      replace bb := below_go bb B
      clear B hb
      rw [show decide (F = F) = true by simp]
      go_wp2_with fail
      go_ret
      exact Yes.of bb

/-! ### The row's step -/
theorem own : ownKnob Try.prog.godebug = none := by kernel_rfl
theorem laidOut : laidOutB Try.prog = true := by kernel_rfl

theorem contract (H : Type) (enc : TypeId × Value → H) (W : World) (base : Nat) (args : Array Value) (ds gs : List (DataW H)) (before : List MemPlace)
    (hval : ∀ (j : Nat) t v, Try.f8.params[j]? = some t → args[j]? = some v → Value.okWide Try.prog W .any base t v)
    (hW : DataW.Whole enc Try.prog Try.f8.params.toList Rows.deltaRowsSpec.vars false W args.toList ds gs before) :
    Calls Try.prog 8 args W fun e W' => ∃ v, e = .returned v ∧ Rows.deltaRowsSpec.post enc Try.prog Try.f8 false true false false W args v W' := by
  have hW' := hW
  obtain ⟨p, q, hA0, hV, rfl, hfz, hnd⟩ := hW
  have hA : DataW.TrodAll enc Try.prog W 0 (fun _ => true) true Try.f8.params.toList args.toList ds p := hA0
  rw [Try.params8] at hA hval
  obtain ⟨v0, vs0, d0, ds0, p0, q0, hargs, rfl, rfl, h0, r0⟩ := trodAll_cons hA
  obtain ⟨v1, vs1, d1, ds1, p1, q1, rfl, rfl, rfl, h1, r1⟩ := trodAll_cons r0
  obtain ⟨rfl, rfl, rfl⟩ := trodAll_nil r1
  obtain rfl : args = #[v0, v1] := by cases args; simp_all
  obtain ⟨rfl, rfl⟩ := trodVars_none hV
  have k0 := h0
  have lt0 : ∀ x ∈ p0, x.block < W.heap.size := by obtain ⟨m, hm⟩ := k0; exact DataW.trod_lt m _ _ _ hm
  obtain ⟨A0, n0, c0, e0⟩ := okWide_slice Try.underlying27 (hval 0 27 v0 rfl rfl)
  subst e0
  obtain ⟨l0, w0⟩ := open_argI Try.underlying27 Try.underlying3 (by kernel_rfl) h0
  have k1 := h1
  have lt1 : ∀ x ∈ p1, x.block < W.heap.size := by obtain ⟨m, hm⟩ := k1; exact DataW.trod_lt m _ _ _ hm
  obtain ⟨A1, n1, c1, e1⟩ := okWide_slice Try.underlying27 (hval 1 27 v1 rfl rfl)
  subst e1
  obtain ⟨l1, w1⟩ := open_argI Try.underlying27 Try.underlying3 (by kernel_rfl) h1
  clear hA0
  refine (deltaRows_walk A0 n0 c0 l0 A1 n1 c1 l1 W w0 w1).mono fun e W' ⟨he, bel⟩ => ?_
  subst he
  exact ⟨_, rfl, _, _, _, [], _, [], hW', trodAll_mk1 (shut_bool Try.underlying4 _), (trodAll_cons_mk (Below.trod laidOut (by kernel_rfl) (of_decide_eq_true (by kernel_rfl)) k0 bel lt0) (trodAll_cons_mk (Below.trod laidOut (by kernel_rfl) (of_decide_eq_true (by kernel_rfl)) k1 bel lt1) trodAll_mk0)), rfl, bel.frame _, fun h => by cases h⟩

set_option maxRecDepth 100000 in
theorem lifted (os : Os) (started : os.Started) (H : Type) (enc : TypeId × Value → H) :
    ReturnsInHanded {} Try.checked os 8 .any (Rows.deltaRowsSpec.pre6 enc Try.prog Try.f8 Rows.deltaRowsRow.domain false) (Rows.deltaRowsSpec.post enc Try.prog Try.f8 false true false false) := by
  refine returnsInHanded_of_change (C := Try.checked) own started (by kernel_rfl) Try.func8
    (ChangeSpec.witness6 (enc := enc) (C := Try.checked) false ⟨#[], #[.slice none 0 0, .slice none 0 0], []⟩ 8 (by kernel_rfl) (by kernel_rfl) (by kernel_rfl) (by kernel_rfl)) ?_
  intro W base args ds gs before hval hW _ _
  exact contract H enc W base args ds gs before hval hW

/-- The statement. -/
theorem proved : Rows.DeltaRowsSaid :=
  OpenClaim.holds_of_wide 8 Try.f8 rfl rfl rfl rfl rfl rfl rfl ⟨rfl, rfl, rfl, rfl, rfl⟩ rfl rfl rfl rfl rfl (by kernel_rfl) Try.func8 (by kernel_rfl)
    (of_decide_eq_true (by kernel_rfl)) (by unfold Func.isWrapper; first | (rw [if_pos (by decide +kernel)]; kernel_rfl) | (rw [if_neg (by decide +kernel)]; exact ⟨rfl, rfl⟩))
    (fun os started H enc _ => lifted os started H enc)

end Go.Proofs.Ytakefhmahngdeaa.deltaRowsP
