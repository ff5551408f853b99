/-
  Proved: for every input tattinglaw14.RussSides returns true, and its arguments read afterwards as before.
-/
import Derived.Test.YtdedmmeefffpkaaM26
import Derived.Test.YtdedmmeefffpkaaM28
namespace Go.Proofs.Ytdedmmeefffpkaa.russSidesP
open Go.ChangeShapes Go.WideShapes Go.ChangeAt Go.RowKit
open Go.ChangeMaps (open_string shut_string)

set_option maxRecDepth 100000 in
set_option maxHeartbeats 1600000 in
theorem russSides_walk (Aa : Option Addr) (na ca : Nat) (a : List Int) (Ab : Option Addr) (nb cb : Nat) (b : List Int) (w : World) (ha : ArgI w Aa na ca a) (hb : ArgI w Ab nb cb b) :
    Calls Try.prog 6 #[.slice Aa na ca, .slice Ab nb cb] w (Yes w) := by
  obtain ⟨hna, hca, hma, r_a, hnila, hwfa⟩ := ha
  have Ha := Lib.hid hna
  have Wa := Lib.hid hwfa
  clear hna hwfa
  unfold maxLen at hma
  obtain ⟨hnb, hcb, hmb, r_b, hnilb, hwfb⟩ := hb
  have Hb := Lib.hid hnb
  have Wb := Lib.hid hwfb
  clear hnb hwfb
  unfold maxLen at hmb
  go_enter Try.func6, Try.ntmps6
  go_wp2_with fail
  refine (of14_any 0 0 _ (by decide) (by decide) (by decide)).mono ?_
  rintro e w1 ⟨x, rfl, hTx, hx0, bb⟩
  go_wp2_with fail
  refine (of14_any 1 1 _ (by decide) (by decide) (by decide)).mono ?_
  rintro e w1' ⟨y, rfl, hTy, hy0, hb⟩
  have hxy : x < y := by have := hTx.lt; omega
  replace hTx := hTx.below hb
  have hy0 : w.heap.size ≤ y := by omega
  replace bb := below_go bb hb
  clear hb
  go_wp2_with fail
  refine (of14_any 2 2 _ (by decide) (by decide) (by decide)).mono ?_
  rintro e w1'' ⟨z, rfl, hTz, hz0, hb⟩
  have hyz : y < z := by have := hTy.lt; omega
  replace hTx := hTx.below hb
  replace hTy := hTy.below hb
  have hz0 : w.heap.size ≤ z := by omega
  replace bb := below_go bb hb
  clear hb
  go_wp2_with fail
  refine (awake14 _).mono ?_
  rintro e w2 ⟨rfl, hb⟩
  replace hTx := hTx.below hb
  replace hTy := hTy.below hb
  replace hTz := hTz.below hb
  replace bb := below_go bb hb
  clear hb
  by_cases ga : na ≤ 40
  case neg =>
    go_wp2_with fail
    go_ret
    exact Yes.of bb
  by_cases gb : nb ≤ 40
  case neg =>
    go_wp2_with fail
    go_ret
    exact Yes.of bb
  replace r_a := r_a.below bb
  replace r_b := r_b.below bb
  go_wp2_with fail
  refine (few_any _ na _ a 4 _ Ha.out (by omega) (by decide) (by decide) r_a).mono ?_
  rintro e w3 ⟨v, rfl, hv, hb⟩
  have Hu : Hid ((few 4 a).length = na) := by show _ = _; rw [few_length, Ha.out]
  rw [Hu.out] at hv
  obtain ⟨V_u, c_u, rfl, hq_u, rw_u⟩ := own_rowN hv
  clear hv
  generalize few 4 a = u at *
  have rx_u := rw_u x hTx.lt
  have ry_u := rw_u y hTy.lt
  have rz_u := rw_u z hTz.lt
  clear rw_u
  replace hTx := hTx.below hb
  replace hTy := hTy.below hb
  replace hTz := hTz.below hb
  replace bb := below_go bb hb
  replace r_b := r_b.below hb
  clear hb
  go_wp2_with fail
  refine (few_any _ nb _ b 4 _ Hb.out (by omega) (by decide) (by decide) r_b).mono ?_
  rintro e w4 ⟨v, rfl, hv, hb⟩
  have Hv : Hid ((few 4 b).length = nb) := by show _ = _; rw [few_length, Hb.out]
  rw [Hv.out] at hv
  obtain ⟨V_v, c_v, rfl, hq_v, rw_v⟩ := own_rowN hv
  clear hv
  generalize few 4 b = v at *
  have rx_v := rw_v x hTx.lt
  have ry_v := rw_v y hTy.lt
  have rz_v := rw_v z hTz.lt
  clear rw_v
  replace hTx := hTx.below hb
  replace hTy := hTy.below hb
  replace hTz := hTz.below hb
  replace bb := below_go bb hb
  replace rx_u := rx_u.below hb
  replace ry_u := ry_u.below hb
  replace rz_u := rz_u.below hb
  clear hb
  have nxy : y ≠ x := by omega
  have nxz : z ≠ x := by omega
  have nyz : z ≠ y := by omega
  have hle := lcs_le_left u v
  have hle2 := lcs_le_right u v
  rw [Hu.out] at hle
  rw [Hv.out] at hle2
  have HC := Lib.hid (lcs_comm v u)
  have hNN : upN na 3 * upN nb 3 ≤ upN na 2 * upN nb 2 := Nat.mul_le_mul (upN_le (by decide) (by decide)) (upN_le (by decide) (by decide))
  go_wp2_with fail
  refine (len_w 1 x _ _ na nb _ _ u v w w4 (by decide) Hu.out Hv.out (by omega) (by omega) hq_u hq_v rx_u rx_v hTx bb hx0).mono ?_
  rintro e w5 ⟨rfl, hN, bb, hg⟩
  replace hTy := hTy.apart hTx nxy hg
  replace hTz := hTz.apart hTx nxz hg
  replace ry_u := rowN_of (rx_u.grown hg) ry_u
  replace ry_v := rowN_of (rx_v.grown hg) ry_v
  replace rz_u := rowN_of (rx_u.grown hg) rz_u
  replace rz_v := rowN_of (rx_v.grown hg) rz_v
  clear hN hTx rx_u rx_v hg
  go_wp2_with fail
  refine (len_w 2 y _ _ nb na _ _ v u w w5 (by decide) Hv.out Hu.out (by omega) (by omega) hq_v hq_u ry_v ry_u hTy bb hy0).mono ?_
  rintro e w6 ⟨rfl, hN, bb, hg⟩
  replace hTz := hTz.apart hTy nyz hg
  rw [HC.out]
  replace hTy := hN
  replace rz_u := rowN_of (ry_u.grown hg) rz_u
  replace rz_v := rowN_of (ry_v.grown hg) rz_v
  replace ry_u := ry_u.grown hg
  replace ry_v := ry_v.grown hg
  clear hN hg
  go_wp2_with fail
  refine (len_w 3 z _ _ na nb _ _ u v w w6 (by decide) Hu.out Hv.out (by omega) (by omega) hq_u hq_v rz_u rz_v hTz bb hz0).mono ?_
  rintro e w7 ⟨rfl, hN, bb, hg⟩
  replace hTy := hTy.apart hTz (Ne.symm nyz) hg
  replace hTz := hN
  replace ry_u := rowN_of (rz_u.grown hg) ry_u
  replace ry_v := rowN_of (rz_v.grown hg) ry_v
  replace rz_u := rz_u.grown hg
  replace rz_v := rz_v.grown hg
  clear hN hg
  go_wp2_with fail
  refine (run_w 2 y _ _ na nb _ _ u v w w7 (by decide) Hu.out Hv.out (by omega) (by omega) hq_u hq_v ry_u ry_v hTy bb hy0).mono ?_
  rintro e w8 ⟨R, V, cR, rfl, _, _, hN, bb, hg⟩
  generalize upN na 2 * upN nb 2 = N2 at *
  replace hTz := hTz.apart hTy nyz hg
  replace rz_u := rowN_of (ry_u.grown hg) rz_u
  replace rz_v := rowN_of (ry_v.grown hg) rz_v
  clear hN hTy ry_u ry_v hg
  go_wp2_with fail
  refine (run_w 3 z _ _ na nb _ _ u v w w8 (by decide) Hu.out Hv.out (by omega) (by omega) hq_u hq_v rz_u rz_v hTz bb hz0).mono ?_
  rintro e w9 ⟨R, V, cR, rfl, _, _, hN, bb, hg⟩
  generalize upN na 3 * upN nb 3 = N3 at *
  clear hN hTz rz_u rz_v hg
  obtain ⟨M, hM⟩ : ∃ M, min na nb = M := ⟨_, rfl⟩
  have em : (if nb < na then (nb : Int) else (na : Int)) = (M : Int) := by split <;> omega
  have em' : (if (nb : Int) < (na : Int) then (nb : Int) else (na : Int)) = (M : Int) := by split <;> omega
  have hLM : lcs u v ≤ M := by omega
  generalize lcs u v = Lc at *
  have em2 : decide ((Lc : Int) ≤ min (na : Int) (nb : Int)) = true := by rw [decide_eq_true_eq]; omega
  have em3 : (Lc : Int) ≤ min (na : Int) (nb : Int) := by omega
  clear hM hle hle2
  go_wp2_with fail
  go_ret
  exact Yes.of bb

/-! ### The row's step -/
theorem own : ownKnob Try.prog.godebug = none := by kernel_rfl
theorem laidOut : laidOutB Try.prog = true := by kernel_rfl

set_option maxRecDepth 100000 in
theorem contract (H : Type) (enc : TypeId × Value → H) (W : World) (base : Nat) (args : Array Value) (ds gs : List (DataW H)) (before : List MemPlace)
    (hval : ∀ (j : Nat) t v, Try.f6.params[j]? = some t → args[j]? = some v → Value.okWide Try.prog W .any base t v)
    (hW : DataW.Whole enc Try.prog Try.f6.params.toList Rows.russSidesSpec.vars false W args.toList ds gs before) :
    Calls Try.prog 6 args W fun e W' => ∃ v, e = .returned v ∧ Rows.russSidesSpec.post enc Try.prog Try.f6 false true false false W args v W' := by
  have hW' := hW
  obtain ⟨p, q, hA0, hV, rfl, hfz, hnd⟩ := hW
  have hA : DataW.TrodAll enc Try.prog W 0 (fun _ => true) true Try.f6.params.toList args.toList ds p := hA0
  rw [Try.params6] at hA hval
  obtain ⟨v0, vs0, d0, ds0, p0, q0, hargs, rfl, rfl, h0, r0⟩ := trodAll_cons hA
  obtain ⟨v1, vs1, d1, ds1, p1, q1, rfl, rfl, rfl, h1, r1⟩ := trodAll_cons r0
  obtain ⟨rfl, rfl, rfl⟩ := trodAll_nil r1
  obtain rfl : args = #[v0, v1] := by cases args; simp_all
  obtain ⟨rfl, rfl⟩ := trodVars_none hV
  have k0 := h0
  have lt0 : ∀ x ∈ p0, x.block < W.heap.size := by obtain ⟨m, hm⟩ := k0; exact DataW.trod_lt m _ _ _ hm
  obtain ⟨A0, n0, c0, e0⟩ := okWide_slice Try.underlying31 (hval 0 31 v0 rfl rfl)
  subst e0
  obtain ⟨l0, w0⟩ := open_argI Try.underlying31 Try.underlying3 (by kernel_rfl) h0
  have k1 := h1
  have lt1 : ∀ x ∈ p1, x.block < W.heap.size := by obtain ⟨m, hm⟩ := k1; exact DataW.trod_lt m _ _ _ hm
  obtain ⟨A1, n1, c1, e1⟩ := okWide_slice Try.underlying31 (hval 1 31 v1 rfl rfl)
  subst e1
  obtain ⟨l1, w1⟩ := open_argI Try.underlying31 Try.underlying3 (by kernel_rfl) h1
  clear hA0
  refine (russSides_walk A0 n0 c0 l0 A1 n1 c1 l1 W w0 w1).mono fun e W' ⟨he, bel⟩ => ?_
  subst he
  exact ⟨_, rfl, _, _, _, [], _, [], hW', trodAll_mk1 (shut_bool Try.underlying4 _), (trodAll_cons_mk (Below.trod laidOut (by kernel_rfl) (of_decide_eq_true (by kernel_rfl)) k0 bel lt0) (trodAll_cons_mk (Below.trod laidOut (by kernel_rfl) (of_decide_eq_true (by kernel_rfl)) k1 bel lt1) trodAll_mk0)), rfl, bel.frame _, fun h => by cases h⟩

set_option maxRecDepth 100000 in
theorem lifted (os : Os) (started : os.Started) (H : Type) (enc : TypeId × Value → H) :
    ReturnsInHanded {} Try.checked os 6 .any (Rows.russSidesSpec.pre6 enc Try.prog Try.f6 Rows.russSidesRow.domain false) (Rows.russSidesSpec.post enc Try.prog Try.f6 false true false false) := by
  refine returnsInHanded_of_change (C := Try.checked) own started (by kernel_rfl) Try.func6
    (ChangeSpec.witness6 (enc := enc) (C := Try.checked) false ⟨#[], #[.slice none 0 0, .slice none 0 0], []⟩ 8 (by kernel_rfl) (by kernel_rfl) (by kernel_rfl) (by kernel_rfl)) ?_
  intro W base args ds gs before hval hW _ _
  exact contract H enc W base args ds gs before hval hW

/-- The statement. -/
theorem proved : Rows.RussSidesSaid :=
  OpenClaim.holds_of_wide 6 Try.f6 rfl rfl rfl rfl rfl rfl rfl ⟨rfl, rfl, rfl, rfl, rfl⟩ rfl rfl rfl rfl rfl (by kernel_rfl) Try.func6 (by kernel_rfl)
    (of_decide_eq_true (by kernel_rfl)) (by unfold Func.isWrapper; first | (rw [if_pos (by decide +kernel)]; kernel_rfl) | (rw [if_neg (by decide +kernel)]; exact ⟨rfl, rfl⟩))
    (fun os started H enc _ => lifted os started H enc)

end Go.Proofs.Ytdedmmeefffpkaa.russSidesP
