/-
  Proved: for every input tattinglaw15.ThreshGoes returns true, and its arguments read afterwards as before.
-/
import Derived.Test.YtnocjkpjihpphaaAwake15
import Derived.Test.YtnocjkpjihpphaaArgsI
namespace Go.Proofs.Ytnocjkpjihpphaa.threshGoesP
open Go.ChangeShapes Go.WideShapes Go.ChangeAt Go.RowKit
open Go.ChangeMaps (open_string shut_string)

/-- The head of a round. -/
def GoRel (x y : List Int) (m : Nat) (w : World) (v i : Value) (wr : World) : Prop := ∃ k : Nat, k ≤ x.length ∧ i = .int .i64 (k : Int) ∧ IS wr v (thrL (px x y k) m) ∧ Below w.heap.size w wr
theorem go_start (x y : List Int) (m : Nat) (w : World) : GoRel x y m w (.slice none 0 0) (.int .i64 0) w := by
  refine ⟨0, Nat.zero_le _, rfl, ?_, Below.refl _ _⟩
  rw [thr_none]
  exact ⟨none, 0, rfl, Nat.le_refl _, Nat.zero_le _, Row.nil _ _, fun _ => rfl⟩
theorem go_next {x y : List Int} {m k : Nat} {w wa wb : World} {v : Value} (hk : k < x.length) (h : IS wa v (thrL (px x y (k + 1)) m)) (hba : Below w.heap.size w wa) (hb : Below wa.heap.size wa wb) : GoRel x y m w v (.int .i64 ((k + 1 : Nat) : Int)) wb :=
  ⟨k + 1, hk, rfl, h.below hb, below_go hba hb⟩

set_option maxRecDepth 100000 in
set_option maxHeartbeats 3200000 in
theorem threshGoes_walk (Aa : Option Addr) (na ca : Nat) (a : List Int) (Ab : Option Addr) (nb cb : Nat) (b : List Int) (w : World) (ha : ArgI w Aa na ca a) (hb : ArgI w Ab nb cb b) :
    Calls Try.prog 6 #[.slice Aa na ca, .slice Ab nb cb] w (Yes w) := by
  obtain ⟨hna, hca, hma, r_a, hnila, hwfa⟩ := ha
  have Ha := Lib.hid hna
  have Wa := Lib.hid hwfa
  clear hna hwfa
  unfold maxLen at hma
  obtain ⟨hnb, hcb, hmb, r_b, hnilb, hwfb⟩ := hb
  have Hb := Lib.hid hnb
  have Wb := Lib.hid hwfb
  clear hnb hwfb
  unfold maxLen at hmb
  by_cases ga : na ≤ 40
  case neg =>
    go_enter Try.func6, Try.ntmps6
    go_wp2_with fail
    refine (awake15 _).mono ?_
    rintro e w1 ⟨rfl, hb1⟩
    go_wp2_with fail
    go_ret
    exact Yes.of hb1
  by_cases gb : nb ≤ 40
  case neg =>
    go_enter Try.func6, Try.ntmps6
    go_wp2_with fail
    refine (awake15 _).mono ?_
    rintro e w1 ⟨rfl, hb1⟩
    go_wp2_with fail
    go_ret
    exact Yes.of hb1
  go_enter Try.func6, Try.ntmps6
  go_wp2_with fail
  refine (awake15 _).mono ?_
  rintro e w1 ⟨rfl, hb⟩
  have B := below_go (Below.refl _ _) hb
  replace r_a := r_a.below B
  replace r_b := r_b.below B
  have bb := B
  clear B hb
  go_wp2_with fail
  refine (few_any _ na _ a 4 _ Ha.out (by omega) (by decide) (by decide) r_a).mono ?_
  rintro e w2 ⟨v, rfl, hv, hb⟩
  have Hx : Hid ((few 4 a).length = na) := by show _ = _; rw [few_length, Ha.out]
  have Fx := Lib.hid (few_all a)
  have Px := Lib.hid (few_fits a)
  rw [Hx.out] at hv
  clear r_a
  replace r_b := r_b.below hb
  replace bb := below_go bb hb
  clear hb
  obtain ⟨V_x, c_x, rfl, hq_x, hx_x, r_x, hnil_x⟩ := own_slice hv
  clear hv
  generalize few 4 a = x at *
  go_wp2_with fail
  refine (few_any _ nb _ b 4 _ Hb.out (by omega) (by decide) (by decide) r_b).mono ?_
  rintro e w3 ⟨v, rfl, hv, hb⟩
  have Hy : Hid ((few 4 b).length = nb) := by show _ = _; rw [few_length, Hb.out]
  have Fy := Lib.hid (few_all b)
  have Py := Lib.hid (few_fits b)
  rw [Hy.out] at hv
  clear r_b
  replace r_x := r_x.below hb
  replace bb := below_go bb hb
  clear hb
  obtain ⟨V_y, c_y, rfl, hq_y, hx_y, r_y, hnil_y⟩ := own_slice hv
  clear hv
  generalize few 4 b = y at *
  go_wp2_with fail
  refine (places_any 4 V_y nb c_y y _ Hy.out (by omega) r_y).mono ?_
  rintro e w4 ⟨v, rfl, ⟨O, cO, vs, rfl, hO1, hO2, hO3, hO4, _⟩, hb⟩
  have HPL := Lib.hid (places_len Py.out)
  rw [HPL.out] at hO1
  rw [HPL.out]
  generalize placesE 4 y = ep at *
  replace r_x := r_x.below hb
  replace r_y := r_y.below hb
  replace bb := below_go bb hb
  clear hb
  have HB := Lib.hid bb
  clear bb
  go_wp2_with fail
  go_loopw [9, 10] (fun v i wr => GoRel x y nb w4 v i wr) (fun _ i _ => na - (intOf i).toNat)
  case atStart => exact go_start _ _ _ _
  case round =>
    obtain ⟨k, hk, rfl, ⟨Tt, cT, rfl, hT1, hT2, hT3, hT4⟩, hbr⟩ := hrel
    rw [Hx.out] at hk
    by_cases hlt : k < na
    · obtain ⟨gx, ox, ex, hcx⟩ := (r_x.below hbr).int (k := k) (by rw [Hx.out]; exact hlt)
      have HX : Hid (x[k]? = some (x[k]'(by rw [Hx.out]; exact hlt))) := List.getElem?_eq_getElem _
      obtain ⟨f1, f2⟩ := Fx.out k _ HX.out
      generalize x[k]'(by rw [Hx.out]; exact hlt) = z at *
      obtain ⟨zk, rfl⟩ := Int.eq_ofNat_of_zero_le f1
      have hz4 : zk < 4 := by omega
      obtain ⟨go, oo, A', c', eO, hco, p1, p2, p3, p4⟩ := places_cell (hO3.below hbr) (hO4.below hbr) Py.out hz4
      have HTN := Lib.hid (thr_next x y k HX.out)
      rw [Hy.out] at HTN
      have l1 := thr_len_le (px x y k) nb
      have l2 := plcR_length (zk : Int) y
      rw [Hy.out] at l2
      have C := Lib.hid (trow_any Tt A' _ _ cT c' (thrL (px x y k) nb) (plcR (zk : Int) y) wr rfl rfl (by omega) (asc_thr _ _) hT4 hT3 p3)
      rw [HTN.out] at C
      subst ex
      subst eO
      have l3 := thr_len_le (px x y (k + 1)) nb
      clear hT3 hT1 hT2 hT4 p1 p2 p3 p4 l1 l2 HTN
      go_wp2_with fail
      refine C.out.mono ?_
      rintro e wa ⟨v, rfl, hv, hb⟩
      have hba := below_go hbr hb
      clear hb hbr hcx hco C
      obtain ⟨V_n, c_n, rfl, hn1, hn2, hn3, hn4⟩ := own_slice hv
      clear hv
      have rxa := r_x.below hba
      have rya := r_y.below hba
      obtain ⟨s1, r_t⟩ := slice_to _ na c_x (k + 1) x wa rxa (by omega)
      have e1 : ((k + 1 : Nat) : Int) = (k : Int) + 1 := by omega
      rw [e1] at s1
      have D := Lib.hid (rthr_any _ V_y (k + 1) nb c_x c_y (x.take (k + 1)) y wa (by rw [List.length_take, Hx.out]; omega) Hy.out (by omega) (by omega) r_t rya)
      rw [px_take] at D
      have R := Lib.hid (fun wb (hb : Below wa.heap.size wa wb) => go_next (x := x) (y := y) (m := nb) (by rw [Hx.out]; exact hlt) ⟨V_n, c_n, rfl, hn1, hn2, hn3, hn4⟩ hba hb)
      generalize thrL (px x y (k + 1)) nb = X at *
      obtain ⟨M, hM⟩ : ∃ M, X.length = M := ⟨_, rfl⟩
      rw [hM] at l3 R
      rw [hM]
      have HM := Lib.hid hM
      clear hM rxa rya r_t hn1 hn2 hn4
      go_wp2_with fail
      refine D.out.mono ?_
      rintro e wb ⟨v, rfl, hv, hb⟩
      have hn3' := hn3.below hb
      obtain ⟨V_m, c_m, rfl, _, _, hm3, _⟩ := own_slice hv
      rw [HM.out]
      clear hv hn3 D s1
      go_wp2_with fail
      refine (sameInts_any _ _ M M _ _ X X _ HM.out HM.out (by omega) hn3' hm3).mono ?_
      rintro e wc ⟨rfl, q, hq⟩
      have hb2 := below_of hq
      rw [show decide (X = X) = true by simp]
      have RR := Lib.hid (R.out wc (below_go hb hb2))
      clear hq hb hb2 R hba hn3' hm3
      go_wp2_with fail
      go_roundw
      case rel => exact RR.out
      case measure => simp [intOf]; omega
    · have hke : k = x.length := by rw [Hx.out]; omega
      have HLC : Hid ((thrL (px x y k) nb).length = lcs x y) := by show _ = _; rw [hke, ← Hy.out]; exact thr_lcs x y
      rw [HLC.out]
      clear hke hT1 hT2 hT3 hT4
      have bb := below_go HB.out hbr
      replace r_x := r_x.below hbr
      replace r_y := r_y.below hbr
      clear hbr HLC
      go_wp2_with fail
      refine (len_any _ _ na nb _ _ x y wr Hx.out Hy.out (by omega) (by omega) r_x r_y).mono ?_
      rintro e wd ⟨rfl, hb⟩
      replace bb := below_go bb hb
      clear hb r_x r_y
      generalize lcs x y = Lc at *
      go_wp2_with fail
      go_ret
      exact Yes.of bb

/-! ### The row's step -/
theorem own : ownKnob Try.prog.godebug = none := by kernel_rfl
theorem laidOut : laidOutB Try.prog = true := by kernel_rfl

set_option maxRecDepth 100000 in
theorem contract (H : Type) (enc : TypeId × Value → H) (W : World) (base : Nat) (args : Array Value) (ds gs : List (DataW H)) (before : List MemPlace)
    (hval : ∀ (j : Nat) t v, Try.f6.params[j]? = some t → args[j]? = some v → Value.okWide Try.prog W .any base t v)
    (hW : DataW.Whole enc Try.prog Try.f6.params.toList Rows.threshGoesSpec.vars false W args.toList ds gs before) :
    Calls Try.prog 6 args W fun e W' => ∃ v, e = .returned v ∧ Rows.threshGoesSpec.post enc Try.prog Try.f6 false true false false W args v W' := by
  have hW' := hW
  obtain ⟨p, q, hA0, hV, rfl, hfz, hnd⟩ := hW
  have hA : DataW.TrodAll enc Try.prog W 0 (fun _ => true) true Try.f6.params.toList args.toList ds p := hA0
  rw [Try.params6] at hA hval
  obtain ⟨v0, vs0, d0, ds0, p0, q0, hargs, rfl, rfl, h0, r0⟩ := trodAll_cons hA
  obtain ⟨v1, vs1, d1, ds1, p1, q1, rfl, rfl, rfl, h1, r1⟩ := trodAll_cons r0
  obtain ⟨rfl, rfl, rfl⟩ := trodAll_nil r1
  obtain rfl : args = #[v0, v1] := by cases args; simp_all
  obtain ⟨rfl, rfl⟩ := trodVars_none hV
  have k0 := h0
  have lt0 : ∀ x ∈ p0, x.block < W.heap.size := by obtain ⟨m, hm⟩ := k0; exact DataW.trod_lt m _ _ _ hm
  obtain ⟨A0, n0, c0, e0⟩ := okWide_slice Try.underlying22 (hval 0 22 v0 rfl rfl)
  subst e0
  obtain ⟨l0, w0⟩ := open_argI Try.underlying22 Try.underlying3 (by kernel_rfl) h0
  have k1 := h1
  have lt1 : ∀ x ∈ p1, x.block < W.heap.size := by obtain ⟨m, hm⟩ := k1; exact DataW.trod_lt m _ _ _ hm
  obtain ⟨A1, n1, c1, e1⟩ := okWide_slice Try.underlying22 (hval 1 22 v1 rfl rfl)
  subst e1
  obtain ⟨l1, w1⟩ := open_argI Try.underlying22 Try.underlying3 (by kernel_rfl) h1
  clear hA0
  refine (threshGoes_walk A0 n0 c0 l0 A1 n1 c1 l1 W w0 w1).mono fun e W' ⟨he, bel⟩ => ?_
  subst he
  exact ⟨_, rfl, _, _, _, [], _, [], hW', trodAll_mk1 (shut_bool Try.underlying4 _), (trodAll_cons_mk (Below.trod laidOut (by kernel_rfl) (of_decide_eq_true (by kernel_rfl)) k0 bel lt0) (trodAll_cons_mk (Below.trod laidOut (by kernel_rfl) (of_decide_eq_true (by kernel_rfl)) k1 bel lt1) trodAll_mk0)), rfl, bel.frame _, fun h => by cases h⟩

set_option maxRecDepth 100000 in
theorem lifted (os : Os) (started : os.Started) (H : Type) (enc : TypeId × Value → H) :
    ReturnsInHanded {} Try.checked os 6 .any (Rows.threshGoesSpec.pre6 enc Try.prog Try.f6 Rows.threshGoesRow.domain false) (Rows.threshGoesSpec.post enc Try.prog Try.f6 false true false false) := by
  refine returnsInHanded_of_change (C := Try.checked) own started (by kernel_rfl) Try.func6
    (ChangeSpec.witness6 (enc := enc) (C := Try.checked) false ⟨#[], #[.slice none 0 0, .slice none 0 0], []⟩ 8 (by kernel_rfl) (by kernel_rfl) (by kernel_rfl) (by kernel_rfl)) ?_
  intro W base args ds gs before hval hW _ _
  exact contract H enc W base args ds gs before hval hW

/-- The statement. -/
theorem proved : Rows.ThreshGoesSaid :=
  OpenClaim.holds_of_wide 6 Try.f6 rfl rfl rfl rfl rfl rfl rfl ⟨rfl, rfl, rfl, rfl, rfl⟩ rfl rfl rfl rfl rfl (by kernel_rfl) Try.func6 (by kernel_rfl)
    (of_decide_eq_true (by kernel_rfl)) (by unfold Func.isWrapper; first | (rw [if_pos (by decide +kernel)]; kernel_rfl) | (rw [if_neg (by decide +kernel)]; exact ⟨rfl, rfl⟩))
    (fun os started H enc _ => lifted os started H enc)

end Go.Proofs.Ytnocjkpjihpphaa.threshGoesP
