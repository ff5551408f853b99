/-
  Proved: for every input tattinglaw10.RowsNext returns true, and its arguments read afterwards as before.
-/
import Derived.Test.YtikmmbplcjhhiaaAwake10
import Derived.Test.YtikmmbplcjhhiaaArgsI
import Derived.Test.YtikmmbplcjhhiaaRr1
namespace Go.Proofs.Ytikmmbplcjhhiaa.rowsNextP
open Go.ChangeShapes Go.WideShapes Go.ChangeAt Go.RowKit
open Go.ChangeMaps (open_string shut_string)

set_option maxRecDepth 100000 in
set_option maxHeartbeats 1600000 in
theorem rowsNext_walk (Arow : Option Addr) (nrow crow : Nat) (row : List Int) (sym : Int) (Ab : Option Addr) (nb cb : Nat) (b : List Int) (w : World) (hrow : ArgI w Arow nrow crow row) (hsym : (Lit.int .i64 sym).wf = true) (hb : ArgI w Ab nb cb b) :
    Calls Try.prog 4 #[.slice Arow nrow crow, .int .i64 sym, .slice Ab nb cb] w (Yes w) := by
  obtain ⟨hnrow, hcrow, hmrow, r_row, hnilrow, hwfrow⟩ := hrow
  have Hrow := Lib.hid hnrow
  have Wrow := Lib.hid hwfrow
  clear hnrow hwfrow
  unfold maxLen at hmrow
  have Wsym : Hid (I64 sym) := bounds_i64 hsym
  clear hsym
  obtain ⟨hnb, hcb, hmb, r_b, hnilb, hwfb⟩ := hb
  have Hb := Lib.hid hnb
  have Wb := Lib.hid hwfb
  clear hnb hwfb
  unfold maxLen at hmb
  by_cases grow : nrow ≤ 40
  case neg =>
    go_enter Try.func4, Try.ntmps4
    go_wp2_with fail
    refine (awake10 _).mono ?_
    rintro e w1 ⟨rfl, hb1⟩
    go_wp2_with fail
    go_ret
    exact Yes.of hb1
  by_cases gb : nb ≤ 40
  case neg =>
    go_enter Try.func4, Try.ntmps4
    go_wp2_with fail
    refine (awake10 _).mono ?_
    rintro e w1 ⟨rfl, hb1⟩
    go_wp2_with fail
    go_ret
    exact Yes.of hb1
  go_enter Try.func4, Try.ntmps4
  go_wp2_with fail
  refine (awake10 _).mono ?_
  rintro e w1 ⟨rfl, hb⟩
  have B := below_go (Below.refl _ _) hb
  replace r_row := r_row.below B
  replace r_b := r_b.below B
  have bb := B
  clear B hb
  have hNle : (nextL row sym b).length ≤ 41 := by
    by_cases e : row.length = b.length + 1
    · rw [nextL_fits e, rowL_length, Hb.out]
      omega
    · rw [nextL_not e]
      exact Nat.zero_le _
  obtain ⟨N, hN⟩ : ∃ N, (nextL row sym b).length = N := ⟨_, rfl⟩
  have HN := Lib.hid hN
  rw [hN] at hNle
  clear hN
  go_wp2_with fail
  refine (next_any _ _ nrow nb _ _ row sym b _ Hrow.out Hb.out (by omega) r_row r_b).mono ?_
  rintro e w2 ⟨v, rfl, hv, hb⟩
  have B := below_go (Below.refl _ _) hb
  replace r_row := r_row.below B
  replace r_b := r_b.below B
  replace bb := below_go bb B
  clear B hb
  rw [HN.out] at hv
  obtain ⟨V_x, c_x, rfl, hq_x, _, r_x, _⟩ := own_slice hv
  clear hv
  go_wp2_with fail
  refine (rnext_any _ _ nrow nb _ _ row sym b _ Hrow.out Hb.out (by omega) r_row r_b).mono ?_
  rintro e w3 ⟨v, rfl, hv, hb⟩
  have B := below_go (Below.refl _ _) hb
  replace r_row := r_row.below B
  replace r_b := r_b.below B
  replace r_x := r_x.below B
  replace bb := below_go bb B
  clear B hb
  rw [HN.out] at hv
  obtain ⟨V_y, c_y, rfl, hq_y, _, r_y, _⟩ := own_slice hv
  clear hv
  go_wp2_with fail
  refine (sameInts_any _ _ N N _ _ (nextL row sym b) (nextL row sym b) _ HN.out HN.out (by omega) r_x r_y).mono ?_
  rintro e w4 ⟨rfl, q, hq⟩
  have hb := below_of hq
  clear hq
  have B := below_go (Below.refl _ _) hb
  replace r_row := r_row.below B
  replace r_b := r_b.below B
  replace r_x := r_x.below B
  replace r_y := r_y.below B
  replace bb := below_go bb B
  clear B hb
  rw [show decide ((nextL row sym b) = (nextL row sym b)) = true by simp]
  go_wp2_with fail
  go_ret
  exact Yes.of bb

/-! ### The row's step -/
theorem own : ownKnob Try.prog.godebug = none := by kernel_rfl
theorem laidOut : laidOutB Try.prog = true := by kernel_rfl

theorem contract (H : Type) (enc : TypeId × Value → H) (W : World) (base : Nat) (args : Array Value) (ds gs : List (DataW H)) (before : List MemPlace)
    (hval : ∀ (j : Nat) t v, Try.f4.params[j]? = some t → args[j]? = some v → Value.okWide Try.prog W .any base t v)
    (hW : DataW.Whole enc Try.prog Try.f4.params.toList Rows.rowsNextSpec.vars false W args.toList ds gs before) :
    Calls Try.prog 4 args W fun e W' => ∃ v, e = .returned v ∧ Rows.rowsNextSpec.post enc Try.prog Try.f4 false true false false W args v W' := by
  have hW' := hW
  obtain ⟨p, q, hA0, hV, rfl, hfz, hnd⟩ := hW
  have hA : DataW.TrodAll enc Try.prog W 0 (fun _ => true) true Try.f4.params.toList args.toList ds p := hA0
  rw [Try.params4] at hA hval
  obtain ⟨v0, vs0, d0, ds0, p0, q0, hargs, rfl, rfl, h0, r0⟩ := trodAll_cons hA
  obtain ⟨v1, vs1, d1, ds1, p1, q1, rfl, rfl, rfl, h1, r1⟩ := trodAll_cons r0
  obtain ⟨v2, vs2, d2, ds2, p2, q2, rfl, rfl, rfl, h2, r2⟩ := trodAll_cons r1
  obtain ⟨rfl, rfl, rfl⟩ := trodAll_nil r2
  obtain rfl : args = #[v0, v1, v2] := by cases args; simp_all
  obtain ⟨rfl, rfl⟩ := trodVars_none hV
  have k0 := h0
  have lt0 : ∀ x ∈ p0, x.block < W.heap.size := by obtain ⟨m, hm⟩ := k0; exact DataW.trod_lt m _ _ _ hm
  obtain ⟨A0, n0, c0, e0⟩ := okWide_slice Try.underlying24 (hval 0 24 v0 rfl rfl)
  subst e0
  obtain ⟨l0, w0⟩ := open_argI Try.underlying24 Try.underlying3 (by kernel_rfl) h0
  have k1 := h1
  have lt1 : ∀ x ∈ p1, x.block < W.heap.size := by obtain ⟨m, hm⟩ := k1; exact DataW.trod_lt m _ _ _ hm
  obtain ⟨a1, e1, _, _, w1⟩ := open_int Try.underlying3 (hval 1 3 v1 rfl rfl) h1
  subst e1
  have k2 := h2
  have lt2 : ∀ x ∈ p2, x.block < W.heap.size := by obtain ⟨m, hm⟩ := k2; exact DataW.trod_lt m _ _ _ hm
  obtain ⟨A2, n2, c2, e2⟩ := okWide_slice Try.underlying24 (hval 2 24 v2 rfl rfl)
  subst e2
  obtain ⟨l2, w2⟩ := open_argI Try.underlying24 Try.underlying3 (by kernel_rfl) h2
  clear hA0
  refine (rowsNext_walk A0 n0 c0 l0 a1 A2 n2 c2 l2 W w0 w1 w2).mono fun e W' ⟨he, bel⟩ => ?_
  subst he
  exact ⟨_, rfl, _, _, _, [], _, [], hW', trodAll_mk1 (shut_bool Try.underlying4 _), (trodAll_cons_mk (Below.trod laidOut (by kernel_rfl) (of_decide_eq_true (by kernel_rfl)) k0 bel lt0) (trodAll_cons_mk (Below.trod laidOut (by kernel_rfl) (of_decide_eq_true (by kernel_rfl)) k1 bel lt1) (trodAll_cons_mk (Below.trod laidOut (by kernel_rfl) (of_decide_eq_true (by kernel_rfl)) k2 bel lt2) trodAll_mk0))), rfl, bel.frame _, fun h => by cases h⟩

set_option maxRecDepth 100000 in
theorem lifted (os : Os) (started : os.Started) (H : Type) (enc : TypeId × Value → H) :
    ReturnsInHanded {} Try.checked os 4 .any (Rows.rowsNextSpec.pre6 enc Try.prog Try.f4 Rows.rowsNextRow.domain false) (Rows.rowsNextSpec.post enc Try.prog Try.f4 false true false false) := by
  refine returnsInHanded_of_change (C := Try.checked) own started (by kernel_rfl) Try.func4
    (ChangeSpec.witness6 (enc := enc) (C := Try.checked) false ⟨#[], #[.slice none 0 0, .int .i64 0, .slice none 0 0], []⟩ 8 (by kernel_rfl) (by kernel_rfl) (by kernel_rfl) (by kernel_rfl)) ?_
  intro W base args ds gs before hval hW _ _
  exact contract H enc W base args ds gs before hval hW

/-- The statement. -/
theorem proved : Rows.RowsNextSaid :=
  OpenClaim.holds_of_wide 4 Try.f4 rfl rfl rfl rfl rfl rfl rfl ⟨rfl, rfl, rfl, rfl, rfl⟩ rfl rfl rfl rfl rfl (by kernel_rfl) Try.func4 (by kernel_rfl)
    (of_decide_eq_true (by kernel_rfl)) (by unfold Func.isWrapper; first | (rw [if_pos (by decide +kernel)]; kernel_rfl) | (rw [if_neg (by decide +kernel)]; exact ⟨rfl, rfl⟩))
    (fun os started H enc _ => lifted os started H enc)

end Go.Proofs.Ytikmmbplcjhhiaa.rowsNextP
