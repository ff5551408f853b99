/-
  Proved: for every input tattinglaw19.BandCells returns true, and its arguments read afterwards as before.
-/
import Derived.Test.YthpinbmimgojnaaM29
import Derived.Test.YthpinbmimgojnaaM31
namespace Go.Proofs.Ythpinbmimgojnaa.bandCellsP
open Go.ChangeShapes Go.WideShapes Go.ChangeAt Go.RowKit
open Go.ChangeMaps (open_string shut_string)

set_option maxRecDepth 100000 in
set_option maxHeartbeats 1600000 in
theorem bandCells_walk (n : Int) (m : Int) (kk : Int) (w : World) (hn : (Lit.int .i64 n).wf = true) (hm : (Lit.int .i64 m).wf = true) (hkk : (Lit.int .i64 kk).wf = true) :
    Calls Try.prog 4 #[.int .i64 n, .int .i64 m, .int .i64 kk] w (Yes w) := by
  have Wn : Hid (I64 n) := bounds_i64 hn
  clear hn
  have Wm : Hid (I64 m) := bounds_i64 hm
  clear hm
  have Wkk : Hid (I64 kk) := bounds_i64 hkk
  clear hkk
  go_enter Try.func4, Try.ntmps4
  go_wp2_with fail
  refine (awake19 _).mono ?_
  rintro e w1 ⟨rfl, hb⟩
  have B := below_go (Below.refl _ _) hb
  have bb := B
  clear B hb
  by_cases hA : 40 < n ∧ n ≤ 1048576
  · obtain ⟨h1, h2⟩ := hA
    go_wp2_with fail
    go_ret
    exact Yes.of bb
  have hn' : n ≤ 40 ∨ 1048576 < n := by omega
  clear hA
  by_cases hB : 40 < m ∧ m ≤ 1048576
  · obtain ⟨h1, h2⟩ := hB
    rcases hn' with hn' | hn'
    · go_wp2_with fail
      go_ret
      exact Yes.of bb
    · go_wp2_with fail
      go_ret
      exact Yes.of bb
  have hm' : m ≤ 40 ∨ 1048576 < m := by omega
  clear hB
  rcases hn' with hn' | hn' <;> rcases hm' with hm' | hm'
  · go_wp2_with fail
    refine (cells_w n m kk _ Wkk.out).mono ?_
    rintro e w2 ⟨rfl, hb⟩
    have B := below_go (Below.refl _ _) hb
    replace bb := below_go bb B
    clear B hb
    go_wp2_with fail
    refine (rcells_w n m kk _ Wkk.out).mono ?_
    rintro e w3 ⟨rfl, hb⟩
    have B := below_go (Below.refl _ _) hb
    replace bb := below_go bb B
    clear B hb
    go_wp2_with fail
    go_ret
    exact Yes.of bb
  · go_wp2_with fail
    refine (cells_w n m kk _ Wkk.out).mono ?_
    rintro e w2 ⟨rfl, hb⟩
    have B := below_go (Below.refl _ _) hb
    replace bb := below_go bb B
    clear B hb
    go_wp2_with fail
    refine (rcells_w n m kk _ Wkk.out).mono ?_
    rintro e w3 ⟨rfl, hb⟩
    have B := below_go (Below.refl _ _) hb
    replace bb := below_go bb B
    clear B hb
    go_wp2_with fail
    go_ret
    exact Yes.of bb
  · go_wp2_with fail
    refine (cells_w n m kk _ Wkk.out).mono ?_
    rintro e w2 ⟨rfl, hb⟩
    have B := below_go (Below.refl _ _) hb
    replace bb := below_go bb B
    clear B hb
    go_wp2_with fail
    refine (rcells_w n m kk _ Wkk.out).mono ?_
    rintro e w3 ⟨rfl, hb⟩
    have B := below_go (Below.refl _ _) hb
    replace bb := below_go bb B
    clear B hb
    go_wp2_with fail
    go_ret
    exact Yes.of bb
  · go_wp2_with fail
    refine (cells_w n m kk _ Wkk.out).mono ?_
    rintro e w2 ⟨rfl, hb⟩
    have B := below_go (Below.refl _ _) hb
    replace bb := below_go bb B
    clear B hb
    go_wp2_with fail
    refine (rcells_w n m kk _ Wkk.out).mono ?_
    rintro e w3 ⟨rfl, hb⟩
    have B := below_go (Below.refl _ _) hb
    replace bb := below_go bb B
    clear B hb
    go_wp2_with fail
    go_ret
    exact Yes.of bb

/-! ### The row's step -/
theorem own : ownKnob Try.prog.godebug = none := by kernel_rfl
theorem laidOut : laidOutB Try.prog = true := by kernel_rfl

set_option maxRecDepth 100000 in
theorem contract (H : Type) (enc : TypeId × Value → H) (W : World) (base : Nat) (args : Array Value) (ds gs : List (DataW H)) (before : List MemPlace)
    (hval : ∀ (j : Nat) t v, Try.f4.params[j]? = some t → args[j]? = some v → Value.okWide Try.prog W .any base t v)
    (hW : DataW.Whole enc Try.prog Try.f4.params.toList Rows.bandCellsSpec.vars false W args.toList ds gs before) :
    Calls Try.prog 4 args W fun e W' => ∃ v, e = .returned v ∧ Rows.bandCellsSpec.post enc Try.prog Try.f4 false true false false W args v W' := by
  have hW' := hW
  obtain ⟨p, q, hA0, hV, rfl, hfz, hnd⟩ := hW
  have hA : DataW.TrodAll enc Try.prog W 0 (fun _ => true) true Try.f4.params.toList args.toList ds p := hA0
  rw [Try.params4] at hA hval
  obtain ⟨v0, vs0, d0, ds0, p0, q0, hargs, rfl, rfl, h0, r0⟩ := trodAll_cons hA
  obtain ⟨v1, vs1, d1, ds1, p1, q1, rfl, rfl, rfl, h1, r1⟩ := trodAll_cons r0
  obtain ⟨v2, vs2, d2, ds2, p2, q2, rfl, rfl, rfl, h2, r2⟩ := trodAll_cons r1
  obtain ⟨rfl, rfl, rfl⟩ := trodAll_nil r2
  obtain rfl : args = #[v0, v1, v2] := by cases args; simp_all
  obtain ⟨rfl, rfl⟩ := trodVars_none hV
  have k0 := h0
  have lt0 : ∀ x ∈ p0, x.block < W.heap.size := by obtain ⟨m, hm⟩ := k0; exact DataW.trod_lt m _ _ _ hm
  obtain ⟨a0, e0, _, _, w0⟩ := open_int Try.underlying3 (hval 0 3 v0 rfl rfl) h0
  subst e0
  have k1 := h1
  have lt1 : ∀ x ∈ p1, x.block < W.heap.size := by obtain ⟨m, hm⟩ := k1; exact DataW.trod_lt m _ _ _ hm
  obtain ⟨a1, e1, _, _, w1⟩ := open_int Try.underlying3 (hval 1 3 v1 rfl rfl) h1
  subst e1
  have k2 := h2
  have lt2 : ∀ x ∈ p2, x.block < W.heap.size := by obtain ⟨m, hm⟩ := k2; exact DataW.trod_lt m _ _ _ hm
  obtain ⟨a2, e2, _, _, w2⟩ := open_int Try.underlying3 (hval 2 3 v2 rfl rfl) h2
  subst e2
  clear hA0
  refine (bandCells_walk a0 a1 a2 W w0 w1 w2).mono fun e W' ⟨he, bel⟩ => ?_
  subst he
  exact ⟨_, rfl, _, _, _, [], _, [], hW', trodAll_mk1 (shut_bool Try.underlying4 _), (trodAll_cons_mk (Below.trod laidOut (by kernel_rfl) (of_decide_eq_true (by kernel_rfl)) k0 bel lt0) (trodAll_cons_mk (Below.trod laidOut (by kernel_rfl) (of_decide_eq_true (by kernel_rfl)) k1 bel lt1) (trodAll_cons_mk (Below.trod laidOut (by kernel_rfl) (of_decide_eq_true (by kernel_rfl)) k2 bel lt2) trodAll_mk0))), rfl, bel.frame _, fun h => by cases h⟩

set_option maxRecDepth 100000 in
theorem lifted (os : Os) (started : os.Started) (H : Type) (enc : TypeId × Value → H) :
    ReturnsInHanded {} Try.checked os 4 .any (Rows.bandCellsSpec.pre6 enc Try.prog Try.f4 Rows.bandCellsRow.domain false) (Rows.bandCellsSpec.post enc Try.prog Try.f4 false true false false) := by
  refine returnsInHanded_of_change (C := Try.checked) own started (by kernel_rfl) Try.func4
    (ChangeSpec.witness6 (enc := enc) (C := Try.checked) false ⟨#[], #[.int .i64 0, .int .i64 0, .int .i64 0], []⟩ 8 (by kernel_rfl) (by kernel_rfl) (by kernel_rfl) (by kernel_rfl)) ?_
  intro W base args ds gs before hval hW _ _
  exact contract H enc W base args ds gs before hval hW

/-- The statement. -/
theorem proved : Rows.BandCellsSaid :=
  OpenClaim.holds_of_wide 4 Try.f4 rfl rfl rfl rfl rfl rfl rfl ⟨rfl, rfl, rfl, rfl, rfl⟩ rfl rfl rfl rfl rfl (by kernel_rfl) Try.func4 (by kernel_rfl)
    (of_decide_eq_true (by kernel_rfl)) (by unfold Func.isWrapper; first | (rw [if_pos (by decide +kernel)]; kernel_rfl) | (rw [if_neg (by decide +kernel)]; exact ⟨rfl, rfl⟩))
    (fun os started H enc _ => lifted os started H enc)

end Go.Proofs.Ythpinbmimgojnaa.bandCellsP
