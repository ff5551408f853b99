/-
  Proved: for every input tattinglaw10.RowsGo returns true, and its arguments read afterwards as before.
-/
import Derived.Test.YtikmmbplcjhhiaaAwake10
import Derived.Test.YtikmmbplcjhhiaaArgsI
import Derived.Test.YtikmmbplcjhhiaaFew
import Derived.Test.YtikmmbplcjhhiaaRf7
import Derived.Test.YtikmmbplcjhhiaaSlc
namespace Go.Proofs.Ytikmmbplcjhhiaa.rowsGoP
open Go.ChangeShapes Go.WideShapes Go.ChangeAt Go.RowKit
open Go.ChangeMaps (open_string shut_string)

/-- The head of a round. -/
def GoRel (x y : List Int) (Vx Vy : Option Addr) (n m : Nat) (w : World) (v i : Value) (wr : World) : Prop :=
  ∃ (k : Nat) (V : Option Addr) (c : Nat), k ≤ n ∧ i = .int .i64 (k : Int) ∧ v = .slice V (m + 1) c ∧ Row wr V (iv (frontL (x.take k) y)) ∧ Row wr Vx (iv x) ∧ Row wr Vy (iv y) ∧ Below w.heap.size w wr

set_option maxRecDepth 100000 in
set_option maxHeartbeats 3200000 in
theorem rowsGo_walk (Aa : Option Addr) (na ca : Nat) (a : List Int) (Ab : Option Addr) (nb cb : Nat) (b : List Int) (w : World) (ha : ArgI w Aa na ca a) (hb : ArgI w Ab nb cb b) :
    Calls Try.prog 6 #[.slice Aa na ca, .slice Ab nb cb] w (Yes w) := by
  obtain ⟨hna, hca, hma, r_a, hnila, hwfa⟩ := ha
  have Ha := Lib.hid hna
  have Wa := Lib.hid hwfa
  clear hna hwfa
  unfold maxLen at hma
  obtain ⟨hnb, hcb, hmb, r_b, hnilb, hwfb⟩ := hb
  have Hb := Lib.hid hnb
  have Wb := Lib.hid hwfb
  clear hnb hwfb
  unfold maxLen at hmb
  by_cases ga : na ≤ 40
  case neg =>
    go_enter Try.func6, Try.ntmps6
    go_wp2_with fail
    refine (awake10 _).mono ?_
    rintro e w1 ⟨rfl, hb1⟩
    go_wp2_with fail
    go_ret
    exact Yes.of hb1
  by_cases gb : nb ≤ 40
  case neg =>
    go_enter Try.func6, Try.ntmps6
    go_wp2_with fail
    refine (awake10 _).mono ?_
    rintro e w1 ⟨rfl, hb1⟩
    go_wp2_with fail
    go_ret
    exact Yes.of hb1
  obtain ⟨i0, hi, hz0, hz1, hz2⟩ := info_parts Try.infoInt
  go_enter Try.func6, Try.ntmps6
  go_wp2_with fail
  refine (awake10 _).mono ?_
  rintro e w1 ⟨rfl, hb⟩
  have B := below_go (Below.refl _ _) hb
  replace r_a := r_a.below B
  replace r_b := r_b.below B
  have bb := B
  clear B hb
  go_wp2_with fail
  refine (few_any _ na _ a 4 _ Ha.out (by omega) (by decide) (by decide) r_a).mono ?_
  rintro e w2 ⟨v, rfl, hv, hb⟩
  have B := below_go (Below.refl _ _) hb
  replace r_a := r_a.below B
  replace r_b := r_b.below B
  replace bb := below_go bb B
  clear B hb
  have Hx : Hid ((few 4 a).length = na) := by show _ = _; rw [few_length, Ha.out]
  rw [Hx.out] at hv
  obtain ⟨V_x, c_x, rfl, hq_x, hm_x, r_x, hnil_x⟩ := own_slice hv
  clear hv
  generalize few 4 a = x at *
  clear r_a
  go_wp2_with fail
  refine (few_any _ nb _ b 4 _ Hb.out (by omega) (by decide) (by decide) r_b).mono ?_
  rintro e w3 ⟨v, rfl, hv, hb⟩
  have B := below_go (Below.refl _ _) hb
  replace r_b := r_b.below B
  replace r_x := r_x.below B
  replace bb := below_go bb B
  clear B hb
  have Hy : Hid ((few 4 b).length = nb) := by show _ = _; rw [few_length, Hb.out]
  rw [Hy.out] at hv
  obtain ⟨V_y, c_y, rfl, hq_y, hm_y, r_y, hnil_y⟩ := own_slice hv
  clear hv
  generalize few 4 b = y at *
  clear r_b
  have HFL : Hid (∀ u : List Int, (frontL u y).length = nb + 1) := fun u => by rw [frontL_length, Hy.out]
  go_wp2_with (at_make; refine wpList_make_row _ rfl _ _ 24 rfl 3 i0 (.int .i64 0) Try.underlying24 hi hz0 hz1 rfl .i64 .i64 (nb + 1) rfl rfl (by rw [hz2]; omega) (by omega) ?_)
  have R0 : GoRel x y V_x V_y na nb w (.slice (some ⟨w3.heap.size, 0, none⟩) (nb + 1) (nb + 1)) (.int .i64 0) (w3.alloc (.cells (madeCells #[.int .i64 0] (nb + 1)) 3)) := by
    refine ⟨0, _, _, Nat.zero_le _, rfl, rfl, ?_, r_x.alloc _, r_y.alloc _, below_al bb _⟩
    rw [List.take_zero, frontL_nil, Hy.out]
    exact Row.of_own (own_isRow (B := 0) (fr_made w3 nb) (Nat.zero_le _) (by unfold maxLen; omega))
  have HR0 := Lib.hid R0
  clear R0 r_x r_y bb
  go_wp2_with fail
  go_loopw [7, 8] (fun v i wr => GoRel x y V_x V_y na nb w v i wr) (fun _ i _ => na - (intOf i).toNat)
  case atStart => exact HR0.out
  case round =>
    clear HR0
    obtain ⟨k, V_r, c_r, hk, rfl, rfl, r_r, r_x, r_y, bb⟩ := hrel
    by_cases hlt : k < na
    · obtain ⟨s1, r_t⟩ := slice_to V_x na c_x k x wr r_x (by omega)
      have HT : Hid ((x.take k).length = k) := by show _ = _; rw [List.length_take, Hx.out]; omega
      go_wp2_with fail
      refine (front_any _ _ k nb _ _ (x.take k) y _ HT.out Hy.out (by omega) (by omega) r_t r_y).mono ?_
      rintro e w1 ⟨v, rfl, hv, hb⟩
      have B := below_go (Below.refl _ _) hb
      replace r_r := r_r.below B
      replace r_x := r_x.below B
      replace r_y := r_y.below B
      replace r_t := r_t.below B
      replace bb := below_go bb B
      clear B hb
      rw [(HFL.out (x.take k) |> Lib.hid).out] at hv
      obtain ⟨V_f, c_f, rfl, hq_f, _, r_f, _⟩ := own_slice hv
      clear hv
      clear r_t
      go_wp2_with fail
      refine (sameInts_any _ _ (nb + 1) (nb + 1) _ _ (frontL (x.take k) y) (frontL (x.take k) y) _ (Lib.hid (HFL.out (x.take k))).out (Lib.hid (HFL.out (x.take k))).out (by omega) r_f r_r).mono ?_
      rintro e w2 ⟨rfl, q, hq⟩
      have hb := below_of hq
      clear hq
      have B := below_go (Below.refl _ _) hb
      replace r_r := r_r.below B
      replace r_x := r_x.below B
      replace r_y := r_y.below B
      replace r_f := r_f.below B
      replace bb := below_go bb B
      clear B hb
      rw [show decide ((frontL (x.take k) y) = (frontL (x.take k) y)) = true by simp]
      clear r_f
      have HX : Hid (x[k]? = some (x[k]'(by rw [Hx.out]; exact hlt))) := List.getElem?_eq_getElem _
      have hgx : ∃ g o, V_x = some ⟨g, o, none⟩ ∧ w2.cell? ⟨g, o + k, none⟩ = some (.int .i64 (x[k]'(by rw [Hx.out]; exact hlt))) := r_x.int (k := k) (by rw [Hx.out]; exact hlt)
      generalize x[k]'(by rw [Hx.out]; exact hlt) = z at *
      obtain ⟨gx, ox, rfl, hcx⟩ := hgx
      have HNX : Hid (nextL (frontL (x.take k) y) z y = frontL (x.take (k + 1)) y) := front_next HX.out (by rw [Hx.out]; omega)
      go_wp2_with fail
      refine (next_any _ _ (nb + 1) nb _ _ (frontL (x.take k) y) z y _ (HFL.out _) Hy.out (by omega) r_r r_y).mono ?_
      rintro e w3 ⟨v, rfl, hv, hb⟩
      have B := below_go (Below.refl _ _) hb
      replace r_r := r_r.below B
      replace r_x := r_x.below B
      replace r_y := r_y.below B
      replace bb := below_go bb B
      clear B hb
      rw [HNX.out, HFL.out] at hv
      obtain ⟨V_n, c_n, rfl, hq_n, _, r_n, _⟩ := own_slice hv
      clear hv
      have RR : Hid (GoRel x y (some ⟨gx, ox, none⟩) V_y na nb w (.slice V_n (nb + 1) c_n) (.int .i64 ((k + 1 : Nat) : Int)) w3) := ⟨k + 1, V_n, c_n, hlt, rfl, rfl, r_n, r_x, r_y, bb⟩
      clear r_n r_x r_y r_r bb hcx s1
      go_wp2_with fail
      go_roundw
      case rel => exact RR.out
      case measure => simp [intOf]; omega
    · obtain rfl : k = na := by omega
      have HTX : Hid (x.take k = x) := List.take_of_length_le (by rw [Hx.out]; exact Nat.le_refl _)
      rw [HTX.out] at r_r
      have HXR : Hid (x.reverse.length = k) := by show _ = _; rw [List.length_reverse, Hx.out]
      have HYR : Hid (y.reverse.length = nb) := by show _ = _; rw [List.length_reverse, Hy.out]
      have HFB : Hid ((frontL x.reverse y.reverse).reverse = backL x y) := front_back x y
      have HFR : Hid ((frontL x.reverse y.reverse).length = nb + 1) := by show _ = _; rw [frontL_length, HYR.out]
      have HBL : Hid ((backL x y).length = nb + 1) := by show _ = _; rw [backL_length, Hy.out]
      have HFX : Hid ((frontL x y).length = nb + 1) := HFL.out x
      clear HFL
      go_wp2_with fail
      refine (turned_any _ k _ x _ Hx.out (by omega) r_x).mono ?_
      rintro e w1 ⟨v, rfl, hv, hb⟩
      have B := below_go (Below.refl _ _) hb
      replace r_r := r_r.below B
      replace r_x := r_x.below B
      replace r_y := r_y.below B
      replace bb := below_go bb B
      clear B hb
      rw [HXR.out] at hv
      obtain ⟨V_p, c_p, rfl, hq_p, _, r_p, _⟩ := own_slice hv
      clear hv
      go_wp2_with fail
      refine (turned_any _ nb _ y _ Hy.out (by omega) r_y).mono ?_
      rintro e w2 ⟨v, rfl, hv, hb⟩
      have B := below_go (Below.refl _ _) hb
      replace r_r := r_r.below B
      replace r_x := r_x.below B
      replace r_y := r_y.below B
      replace r_p := r_p.below B
      replace bb := below_go bb B
      clear B hb
      rw [HYR.out] at hv
      obtain ⟨V_q, c_q, rfl, hq_q, _, r_q, _⟩ := own_slice hv
      clear hv
      go_wp2_with fail
      refine (front_any _ _ k nb _ _ x.reverse y.reverse _ HXR.out HYR.out (by omega) (by omega) r_p r_q).mono ?_
      rintro e w3 ⟨v, rfl, hv, hb⟩
      have B := below_go (Below.refl _ _) hb
      replace r_r := r_r.below B
      replace r_x := r_x.below B
      replace r_y := r_y.below B
      replace r_p := r_p.below B
      replace r_q := r_q.below B
      replace bb := below_go bb B
      clear B hb
      rw [HFR.out] at hv
      obtain ⟨V_s, c_s, rfl, hq_s, _, r_s, _⟩ := own_slice hv
      clear hv
      clear r_p
      clear r_q
      go_wp2_with fail
      refine (front_any _ _ k nb _ _ x y _ Hx.out Hy.out (by omega) (by omega) r_x r_y).mono ?_
      rintro e w4 ⟨v, rfl, hv, hb⟩
      have B := below_go (Below.refl _ _) hb
      replace r_r := r_r.below B
      replace r_x := r_x.below B
      replace r_y := r_y.below B
      replace r_s := r_s.below B
      replace bb := below_go bb B
      clear B hb
      rw [HFX.out] at hv
      obtain ⟨V_f, c_f, rfl, hq_f, _, r_f, _⟩ := own_slice hv
      clear hv
      go_wp2_with fail
      refine (sameInts_any _ _ (nb + 1) (nb + 1) _ _ (frontL x y) (frontL x y) _ HFX.out HFX.out (by omega) r_f r_r).mono ?_
      rintro e w5 ⟨rfl, q, hq⟩
      have hb := below_of hq
      clear hq
      have B := below_go (Below.refl _ _) hb
      replace r_r := r_r.below B
      replace r_x := r_x.below B
      replace r_y := r_y.below B
      replace r_s := r_s.below B
      replace r_f := r_f.below B
      replace bb := below_go bb B
      clear B hb
      rw [show decide ((frontL x y) = (frontL x y)) = true by simp]
      clear r_f
      clear r_r
      go_wp2_with fail
      refine (turned_any _ (nb + 1) _ (frontL x.reverse y.reverse) _ HFR.out (by omega) r_s).mono ?_
      rintro e w6 ⟨v, rfl, hv, hb⟩
      have B := below_go (Below.refl _ _) hb
      replace r_x := r_x.below B
      replace r_y := r_y.below B
      replace r_s := r_s.below B
      replace bb := below_go bb B
      clear B hb
      rw [HFB.out, HBL.out] at hv
      obtain ⟨V_t, c_t, rfl, _, _, r_t, _⟩ := own_slice hv
      clear hv
      clear r_s
      go_wp2_with fail
      refine (back_any _ _ k nb _ _ x y _ Hx.out Hy.out (by omega) (by omega) r_x r_y).mono ?_
      rintro e w7 ⟨v, rfl, hv, hb⟩
      have B := below_go (Below.refl _ _) hb
      replace r_x := r_x.below B
      replace r_y := r_y.below B
      replace r_t := r_t.below B
      replace bb := below_go bb B
      clear B hb
      rw [HBL.out] at hv
      obtain ⟨V_b, c_b, rfl, hq_b, _, r_b, _⟩ := own_slice hv
      clear hv
      go_wp2_with fail
      refine (sameInts_any _ _ (nb + 1) (nb + 1) _ _ (backL x y) (backL x y) _ HBL.out HBL.out (by omega) r_t r_b).mono ?_
      rintro e w8 ⟨rfl, q, hq⟩
      have hb := below_of hq
      clear hq
      have B := below_go (Below.refl _ _) hb
      replace r_x := r_x.below B
      replace r_y := r_y.below B
      replace r_t := r_t.below B
      replace r_b := r_b.below B
      replace bb := below_go bb B
      clear B hb
      rw [show decide ((backL x y) = (backL x y)) = true by simp]
      go_wp2_with fail
      go_ret
      exact Yes.of bb

/-! ### The row's step -/
theorem own : ownKnob Try.prog.godebug = none := by kernel_rfl
theorem laidOut : laidOutB Try.prog = true := by kernel_rfl

theorem contract (H : Type) (enc : TypeId × Value → H) (W : World) (base : Nat) (args : Array Value) (ds gs : List (DataW H)) (before : List MemPlace)
    (hval : ∀ (j : Nat) t v, Try.f6.params[j]? = some t → args[j]? = some v → Value.okWide Try.prog W .any base t v)
    (hW : DataW.Whole enc Try.prog Try.f6.params.toList Rows.rowsGoSpec.vars false W args.toList ds gs before) :
    Calls Try.prog 6 args W fun e W' => ∃ v, e = .returned v ∧ Rows.rowsGoSpec.post enc Try.prog Try.f6 false true false false W args v W' := by
  have hW' := hW
  obtain ⟨p, q, hA0, hV, rfl, hfz, hnd⟩ := hW
  have hA : DataW.TrodAll enc Try.prog W 0 (fun _ => true) true Try.f6.params.toList args.toList ds p := hA0
  rw [Try.params6] at hA hval
  obtain ⟨v0, vs0, d0, ds0, p0, q0, hargs, rfl, rfl, h0, r0⟩ := trodAll_cons hA
  obtain ⟨v1, vs1, d1, ds1, p1, q1, rfl, rfl, rfl, h1, r1⟩ := trodAll_cons r0
  obtain ⟨rfl, rfl, rfl⟩ := trodAll_nil r1
  obtain rfl : args = #[v0, v1] := by cases args; simp_all
  obtain ⟨rfl, rfl⟩ := trodVars_none hV
  have k0 := h0
  have lt0 : ∀ x ∈ p0, x.block < W.heap.size := by obtain ⟨m, hm⟩ := k0; exact DataW.trod_lt m _ _ _ hm
  obtain ⟨A0, n0, c0, e0⟩ := okWide_slice Try.underlying24 (hval 0 24 v0 rfl rfl)
  subst e0
  obtain ⟨l0, w0⟩ := open_argI Try.underlying24 Try.underlying3 (by kernel_rfl) h0
  have k1 := h1
  have lt1 : ∀ x ∈ p1, x.block < W.heap.size := by obtain ⟨m, hm⟩ := k1; exact DataW.trod_lt m _ _ _ hm
  obtain ⟨A1, n1, c1, e1⟩ := okWide_slice Try.underlying24 (hval 1 24 v1 rfl rfl)
  subst e1
  obtain ⟨l1, w1⟩ := open_argI Try.underlying24 Try.underlying3 (by kernel_rfl) h1
  clear hA0
  refine (rowsGo_walk A0 n0 c0 l0 A1 n1 c1 l1 W w0 w1).mono fun e W' ⟨he, bel⟩ => ?_
  subst he
  exact ⟨_, rfl, _, _, _, [], _, [], hW', trodAll_mk1 (shut_bool Try.underlying4 _), (trodAll_cons_mk (Below.trod laidOut (by kernel_rfl) (of_decide_eq_true (by kernel_rfl)) k0 bel lt0) (trodAll_cons_mk (Below.trod laidOut (by kernel_rfl) (of_decide_eq_true (by kernel_rfl)) k1 bel lt1) trodAll_mk0)), rfl, bel.frame _, fun h => by cases h⟩

set_option maxRecDepth 100000 in
theorem lifted (os : Os) (started : os.Started) (H : Type) (enc : TypeId × Value → H) :
    ReturnsInHanded {} Try.checked os 6 .any (Rows.rowsGoSpec.pre6 enc Try.prog Try.f6 Rows.rowsGoRow.domain false) (Rows.rowsGoSpec.post enc Try.prog Try.f6 false true false false) := by
  refine returnsInHanded_of_change (C := Try.checked) own started (by kernel_rfl) Try.func6
    (ChangeSpec.witness6 (enc := enc) (C := Try.checked) false ⟨#[], #[.slice none 0 0, .slice none 0 0], []⟩ 8 (by kernel_rfl) (by kernel_rfl) (by kernel_rfl) (by kernel_rfl)) ?_
  intro W base args ds gs before hval hW _ _
  exact contract H enc W base args ds gs before hval hW

/-- The statement. -/
theorem proved : Rows.RowsGoSaid :=
  OpenClaim.holds_of_wide 6 Try.f6 rfl rfl rfl rfl rfl rfl rfl ⟨rfl, rfl, rfl, rfl, rfl⟩ rfl rfl rfl rfl rfl (by kernel_rfl) Try.func6 (by kernel_rfl)
    (of_decide_eq_true (by kernel_rfl)) (by unfold Func.isWrapper; first | (rw [if_pos (by decide +kernel)]; kernel_rfl) | (rw [if_neg (by decide +kernel)]; exact ⟨rfl, rfl⟩))
    (fun os started H enc _ => lifted os started H enc)

end Go.Proofs.Ytikmmbplcjhhiaa.rowsGoP
