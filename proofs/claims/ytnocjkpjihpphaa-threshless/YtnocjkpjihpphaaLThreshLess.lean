/-
  Proved: for every input tattinglaw15.ThreshLess returns true, and its arguments read afterwards as before.
-/
import Derived.Test.YtnocjkpjihpphaaAwake15
import Derived.Test.YtnocjkpjihpphaaArgsI
import Derived.BigQuiet
namespace Go.Proofs.Ytnocjkpjihpphaa.threshLessP
open Go.ChangeShapes Go.WideShapes Go.ChangeAt Go.RowKit
open Go.ChangeMaps (open_string shut_string)

set_option maxRecDepth 100000 in
set_option maxHeartbeats 3200000 in
theorem threshLess_walk (Al : Option Addr) (nl cl : Nat) (l : List Int) (j : Int) (w : World) (hl : ArgI w Al nl cl l) (hj : (Lit.int .i64 j).wf = true) :
    Calls Try.prog 7 #[.slice Al nl cl, .int .i64 j] w (Yes w) := by
  obtain ⟨hnl, hcl, hml, r_l, hnill, hwfl⟩ := hl
  have Hl := Lib.hid hnl
  have Wl := Lib.hid hwfl
  clear hnl hwfl
  unfold maxLen at hml
  have Wj : Hid (I64 j) := bounds_i64 hj
  clear hj
  by_cases gl : nl ≤ 40
  case neg =>
    go_enter Try.func7, Try.ntmps7
    go_wp2_with fail
    refine (awake15 _).mono ?_
    rintro e w1 ⟨rfl, hb1⟩
    go_wp2_with fail
    go_ret
    exact Yes.of hb1
  go_enter Try.func7, Try.ntmps7
  go_wp2_with fail
  refine (awake15 _).mono ?_
  rintro e w1 ⟨rfl, hb⟩
  have B := below_go (Below.refl _ _) hb
  replace r_l := r_l.below B
  have bb := B
  clear B hb
  go_wp2_with fail
  refine (rising_any _ nl _ l _ Hl.out (by omega) r_l).mono ?_
  rintro e w2 ⟨v, rfl, hv, hb⟩
  have At := Lib.hid (asc_ris l)
  have Nt := ris_length l
  rw [Hl.out] at Nt
  clear r_l
  replace bb := below_go bb hb
  clear hb
  obtain ⟨V_t, c_t, rfl, hq_t, hx_t, r_t, hnil_t⟩ := own_slice hv
  clear hv
  generalize risL l = t at *
  obtain ⟨N, hN⟩ : ∃ N, t.length = N := ⟨_, rfl⟩
  rw [hN] at Nt hq_t
  rw [hN]
  have Ht := Lib.hid hN
  clear hN
  have Kle := put_length t j
  have AX := Lib.hid (asc_put At.out j)
  have PG := Lib.hid (put_again At.out j)
  have KL := put_len t j
  have G1 := Lib.hid (put_get t j)
  have G2 := Lib.hid (fun (i : Nat) (hi : i < t.length) (h : i ≠ cntL t j) => put_other t j hi h)
  have G3 := Lib.hid (fun (y : Int) (h : t[cntL t j]? = some y) => put_under At.out h)
  rw [Ht.out] at Kle
  go_wp2_with fail
  refine (tPut_any V_t N c_t t j _ Ht.out (by omega) At.out hnil_t r_t).mono ?_
  rintro e w3 ⟨v, rfl, hv, hb⟩
  have B := below_go (Below.refl _ _) hb
  replace r_t := r_t.below B
  replace bb := below_go bb B
  clear B hb
  obtain ⟨V_x, c_x, rfl, hq_x, hx_x, r_x, hnil_x⟩ := own_slice hv
  clear hv
  generalize hK : cntL t j = K at *
  generalize putT t j = X at *
  obtain ⟨M, hM⟩ : ∃ M, X.length = M := ⟨_, rfl⟩
  rw [hM] at Kle KL hq_x
  rw [hM]
  have HX := Lib.hid hM
  clear hM hK
  go_wp2_with fail
  refine (tPut_any V_x M c_x X j _ HX.out (by omega) AX.out hnil_x r_x).mono ?_
  rintro e w4 ⟨v, rfl, hv, hb⟩
  rw [PG.out.1, HX.out] at hv
  rw [PG.out.2]
  replace r_t := r_t.below hb
  replace r_x := r_x.below hb
  replace bb := below_go bb hb
  clear hb
  obtain ⟨V_y, c_y, rfl, _, _, r_y, _⟩ := own_slice hv
  clear hv
  obtain ⟨gx, ox, ex, hcx⟩ := r_x.int (k := K) (by rw [HX.out]; exact KL)
  have eX : X[K]'(by rw [HX.out]; exact KL) = j := (List.getElem?_eq_some_iff.1 G1.out).2
  rw [eX] at hcx
  subst ex
  have z1 : decide ((M : Int) < (N : Int)) = false := by rw [decide_eq_false_iff_not]; omega
  have z1' : decide (M < N) = false := by rw [decide_eq_false_iff_not]; omega
  have z2 : decide ((N : Int) + 1 < (M : Int)) = false := by rw [decide_eq_false_iff_not]; omega
  have z2' : decide (N + 1 < M) = false := by rw [decide_eq_false_iff_not]; omega
  have z3 : ((K : Int) != (K : Int)) = false := by simp
  have z4 : decide ((K : Int) < 0) = false := by rw [decide_eq_false_iff_not]; omega
  have z5 : decide ((M : Int) ≤ (K : Int)) = false := by rw [decide_eq_false_iff_not]; omega
  have z5' : decide (M ≤ K) = false := by rw [decide_eq_false_iff_not]; omega
  have z6 : (j != j) = false := by simp
  clear eX
  go_wp2_with fail
  refine (sameInts_any _ _ M M _ _ X X _ HX.out HX.out (by omega) r_x r_y).mono ?_
  rintro e w5 ⟨rfl, q, hq⟩
  have hb := below_of hq
  clear hq
  rw [show decide (X = X) = true by simp]
  replace hcx := (hb.cell (p := ⟨gx, ox + K, none⟩) (World.block_lt_of_cell? _ _ hcx)).trans hcx
  replace r_x := r_x.below hb
  replace r_t := r_t.below hb
  clear r_y
  replace bb := below_go bb hb
  clear hb
  go_wp2_with fail
  go_loopw [10] (fun i wr => ∃ k q : Nat, k ≤ N ∧ i = .int .i64 (k : Int) ∧ wr = w5.drewN q) (fun i _ => N - (intOf i).toNat)
  case atStart => exact ⟨0, 0, Nat.zero_le _, rfl, rfl⟩
  case round =>
    clear hcx z1 z1' z2 z2' z3 z4 z5 z5' z6
    obtain ⟨k, q, hk, rfl, rfl⟩ := hrel
    by_cases hlt : k < N
    · obtain ⟨gt, ot, et, hct⟩ := r_t.int (k := k) (by rw [Ht.out]; exact hlt)
      subst et
      obtain ⟨gx', ox', ex, hcx⟩ := r_x.int (k := k) (by rw [HX.out]; omega)
      cases ex
      have HT : Hid (t[k]? = some (t[k]'(by rw [Ht.out]; exact hlt))) := List.getElem?_eq_getElem _
      have HXk : Hid (X[k]? = some (X[k]'(by rw [HX.out]; omega))) := List.getElem?_eq_getElem _
      generalize t[k]'(by rw [Ht.out]; exact hlt) = y at *
      generalize X[k]'(by rw [HX.out]; omega) = z at *
      have hkM : k < M := by omega
      by_cases hkK : k = K
      · have hzy : z ≤ y := by
          subst hkK
          have e1 := G1.out
          rw [HXk.out] at e1
          have e2 := G3.out y HT.out
          injection e1 with e1
          omega
        have y1 : decide (y < z) = false := by rw [decide_eq_false_iff_not]; omega
        have y2 : ((k : Int) != (K : Int)) = false := by simp; omega
        have y3 : (k != K) = false := by simp; omega
        clear hkK hzy
        go_wp2_with fail
        go_quiet (fail)
        go_wp2_with fail
        go_roundw
        case rel => exact ⟨k + 1, _, hlt, by go_num, rfl⟩
        case measure => simp [intOf]; omega
      · have hzy : z = y := by
          have e := G2.out k (by rw [Ht.out]; exact hlt) hkK
          rw [HXk.out, HT.out] at e
          injection e
        subst hzy
        have y1 : decide (z < z) = false := by rw [decide_eq_false_iff_not]; omega
        have y2 : ((k : Int) != (K : Int)) = true := by simp; omega
        have y3 : (k != K) = true := by simp; omega
        have y4 : (z != z) = false := by simp
        clear hkK
        go_wp2_with fail
        go_quiet (fail)
        go_wp2_with fail
        go_roundw
        case rel => exact ⟨k + 1, _, hlt, by go_num, rfl⟩
        case measure => simp [intOf]; omega
    · have bb' := below_drewN bb q
      go_wp2_with fail
      go_ret
      exact Yes.of bb'

/-! ### The row's step -/
theorem own : ownKnob Try.prog.godebug = none := by kernel_rfl
theorem laidOut : laidOutB Try.prog = true := by kernel_rfl

set_option maxRecDepth 100000 in
theorem contract (H : Type) (enc : TypeId × Value → H) (W : World) (base : Nat) (args : Array Value) (ds gs : List (DataW H)) (before : List MemPlace)
    (hval : ∀ (j : Nat) t v, Try.f7.params[j]? = some t → args[j]? = some v → Value.okWide Try.prog W .any base t v)
    (hW : DataW.Whole enc Try.prog Try.f7.params.toList Rows.threshLessSpec.vars false W args.toList ds gs before) :
    Calls Try.prog 7 args W fun e W' => ∃ v, e = .returned v ∧ Rows.threshLessSpec.post enc Try.prog Try.f7 false true false false W args v W' := by
  have hW' := hW
  obtain ⟨p, q, hA0, hV, rfl, hfz, hnd⟩ := hW
  have hA : DataW.TrodAll enc Try.prog W 0 (fun _ => true) true Try.f7.params.toList args.toList ds p := hA0
  rw [Try.params7] at hA hval
  obtain ⟨v0, vs0, d0, ds0, p0, q0, hargs, rfl, rfl, h0, r0⟩ := trodAll_cons hA
  obtain ⟨v1, vs1, d1, ds1, p1, q1, rfl, rfl, rfl, h1, r1⟩ := trodAll_cons r0
  obtain ⟨rfl, rfl, rfl⟩ := trodAll_nil r1
  obtain rfl : args = #[v0, v1] := by cases args; simp_all
  obtain ⟨rfl, rfl⟩ := trodVars_none hV
  have k0 := h0
  have lt0 : ∀ x ∈ p0, x.block < W.heap.size := by obtain ⟨m, hm⟩ := k0; exact DataW.trod_lt m _ _ _ hm
  obtain ⟨A0, n0, c0, e0⟩ := okWide_slice Try.underlying22 (hval 0 22 v0 rfl rfl)
  subst e0
  obtain ⟨l0, w0⟩ := open_argI Try.underlying22 Try.underlying3 (by kernel_rfl) h0
  have k1 := h1
  have lt1 : ∀ x ∈ p1, x.block < W.heap.size := by obtain ⟨m, hm⟩ := k1; exact DataW.trod_lt m _ _ _ hm
  obtain ⟨a1, e1, _, _, w1⟩ := open_int Try.underlying3 (hval 1 3 v1 rfl rfl) h1
  subst e1
  clear hA0
  refine (threshLess_walk A0 n0 c0 l0 a1 W w0 w1).mono fun e W' ⟨he, bel⟩ => ?_
  subst he
  exact ⟨_, rfl, _, _, _, [], _, [], hW', trodAll_mk1 (shut_bool Try.underlying4 _), (trodAll_cons_mk (Below.trod laidOut (by kernel_rfl) (of_decide_eq_true (by kernel_rfl)) k0 bel lt0) (trodAll_cons_mk (Below.trod laidOut (by kernel_rfl) (of_decide_eq_true (by kernel_rfl)) k1 bel lt1) trodAll_mk0)), rfl, bel.frame _, fun h => by cases h⟩

set_option maxRecDepth 100000 in
theorem lifted (os : Os) (started : os.Started) (H : Type) (enc : TypeId × Value → H) :
    ReturnsInHanded {} Try.checked os 7 .any (Rows.threshLessSpec.pre6 enc Try.prog Try.f7 Rows.threshLessRow.domain false) (Rows.threshLessSpec.post enc Try.prog Try.f7 false true false false) := by
  refine returnsInHanded_of_change (C := Try.checked) own started (by kernel_rfl) Try.func7
    (ChangeSpec.witness6 (enc := enc) (C := Try.checked) false ⟨#[], #[.slice none 0 0, .int .i64 0], []⟩ 8 (by kernel_rfl) (by kernel_rfl) (by kernel_rfl) (by kernel_rfl)) ?_
  intro W base args ds gs before hval hW _ _
  exact contract H enc W base args ds gs before hval hW

/-- The statement. -/
theorem proved : Rows.ThreshLessSaid :=
  OpenClaim.holds_of_wide 7 Try.f7 rfl rfl rfl rfl rfl rfl rfl ⟨rfl, rfl, rfl, rfl, rfl⟩ rfl rfl rfl rfl rfl (by kernel_rfl) Try.func7 (by kernel_rfl)
    (of_decide_eq_true (by kernel_rfl)) (by unfold Func.isWrapper; first | (rw [if_pos (by decide +kernel)]; kernel_rfl) | (rw [if_neg (by decide +kernel)]; exact ⟨rfl, rfl⟩))
    (fun os started H enc _ => lifted os started H enc)

end Go.Proofs.Ytnocjkpjihpphaa.threshLessP
