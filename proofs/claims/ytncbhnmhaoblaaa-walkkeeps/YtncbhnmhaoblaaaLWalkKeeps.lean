/-
  Proved: for every input tattinglaw22.WalkKeeps returns true, and its arguments read afterwards as before.
-/
import Derived.Test.YtncbhnmhaoblaaaM44
import Derived.Test.YtncbhnmhaoblaaaM45
namespace Go.Proofs.Ytncbhnmhaoblaaa.walkKeepsP
open Go.ChangeShapes Go.WideShapes Go.ChangeAt Go.RowKit
open Go.ChangeMaps (open_string shut_string)

set_option maxRecDepth 100000 in
set_option maxHeartbeats 3200000 in
theorem walkKeeps_walk (n : Int) (m : Int) (every : Int) (w : World) (hn : (Lit.int .i64 n).wf = true) (hm : (Lit.int .i64 m).wf = true) (hevery : (Lit.int .i64 every).wf = true) :
    Calls Try.prog 6 #[.int .i64 n, .int .i64 m, .int .i64 every] w (Yes w) := by
  have Wn : Hid (I64 n) := bounds_i64 hn
  clear hn
  have Wm : Hid (I64 m) := bounds_i64 hm
  clear hm
  have Wevery : Hid (I64 every) := bounds_i64 hevery
  clear hevery
  by_cases gg : 500 < n ∧ n ≤ 1048576
  case pos =>
    obtain ⟨g1, g2⟩ := gg
    go_enter Try.func6, Try.ntmps6
    go_wp2_with fail
    refine (awake22 _).mono ?_
    rintro e w1 ⟨rfl, hb1⟩
    go_wp2_with fail
    go_ret
    exact Yes.of hb1
  have gcs : n ≤ 500 ∨ 1048576 < n := by omega
  clear gg
  go_enter Try.func6, Try.ntmps6
  go_wp2_with fail
  refine (awake22 _).mono ?_
  rintro e w1 ⟨rfl, hb⟩
  have B := below_go (Below.refl _ _) hb
  have bb := B
  clear B hb
  have hKl := cntK_le n every
  have hKL := keptI_length n every
  obtain ⟨X, hX⟩ : ∃ X, keptI n every = X := ⟨_, rfl⟩
  have HXX := Lib.hid hX
  rw [hX] at hKL
  obtain ⟨N, hN⟩ : ∃ N, cntK n every = N := ⟨_, rfl⟩
  rw [hN] at hKl hKL
  have HKL := Lib.hid hKL
  obtain ⟨RM, hRM⟩ : ∃ RM, roomI n m every = RM := ⟨_, rfl⟩
  have HRM := Lib.hid hRM
  clear hX hN hKL hRM
  rcases gcs with g1 | g1
  · have g2 : n ≤ 1048576 := by omega
    go_wp2_with fail
    refine (wkept_any n every _ Wn.out Wevery.out).mono ?_
    rintro e w2 ⟨v, rfl, hv, hb⟩
    rw [HXX.out, HKL.out] at hv
    obtain ⟨V_u, c_u, rfl, _, _, r_u, _⟩ := own_slice hv
    clear hv
    have B := below_go (Below.refl _ _) hb
    replace bb := below_go bb B
    clear B hb
    go_wp2_with fail
    refine (rkept_any n every _ Wn.out Wevery.out).mono ?_
    rintro e w3 ⟨v, rfl, hv, hb⟩
    rw [HXX.out, HKL.out] at hv
    obtain ⟨V_t, c_t, rfl, _, _, r_t, _⟩ := own_slice hv
    clear hv
    have B := below_go (Below.refl _ _) hb
    replace r_u := r_u.below B
    replace bb := below_go bb B
    clear B hb
    go_wp2_with fail
    refine (sameInts_any V_u V_t N N c_u c_t X X _ HKL.out HKL.out (by omega) r_u r_t).mono ?_
    rintro e w4 ⟨rfl, q, hq⟩
    have hb := below_of hq
    clear hq
    have B := below_go (Below.refl _ _) hb
    replace r_u := r_u.below B
    replace r_t := r_t.below B
    replace bb := below_go bb B
    clear B hb
    rw [show decide (X = X) = true by simp]
    clear r_u
    clear r_t
    go_wp2_with fail
    refine (wroom_any n m every _ Wn.out Wevery.out).mono ?_
    rintro e w5 ⟨rfl, e0⟩
    have hb := below_same e0.symm
    clear e0
    have B := below_go (Below.refl _ _) hb
    replace bb := below_go bb B
    clear B hb
    rw [HRM.out]
    go_wp2_with fail
    refine (rroom_any n m every _ Wn.out Wevery.out).mono ?_
    rintro e w6 ⟨rfl, hb⟩
    have B := below_go (Below.refl _ _) hb
    replace bb := below_go bb B
    clear B hb
    rw [HRM.out]
    go_wp2_with fail
    refine (wroot_any n _).mono ?_
    rintro e w7 ⟨r0, rfl, hr0, e0⟩
    have hb := below_same e0.symm
    clear e0
    have B := below_go (Below.refl _ _) hb
    replace bb := below_go bb B
    clear B hb
    have HR0 := Lib.hid hr0
    clear hr0
    go_wp2_with fail
    refine (rroot_any n _).mono ?_
    rintro e w8 ⟨r1, rfl, hr1, e0⟩
    have hb := below_same e0.symm
    clear e0
    have B := below_go (Below.refl _ _) hb
    replace bb := below_go bb B
    clear B hb
    obtain rfl := root_unique HR0.out hr1
    clear hr1 HR0
    go_wp2_with fail
    go_ret
    exact Yes.of bb
  · have g2 : (500 : Int) < 1048576 := by decide
    have g3 : (500 : Int) < n := by omega
    go_wp2_with fail
    refine (wkept_any n every _ Wn.out Wevery.out).mono ?_
    rintro e w2 ⟨v, rfl, hv, hb⟩
    rw [HXX.out, HKL.out] at hv
    obtain ⟨V_u, c_u, rfl, _, _, r_u, _⟩ := own_slice hv
    clear hv
    have B := below_go (Below.refl _ _) hb
    replace bb := below_go bb B
    clear B hb
    go_wp2_with fail
    refine (rkept_any n every _ Wn.out Wevery.out).mono ?_
    rintro e w3 ⟨v, rfl, hv, hb⟩
    rw [HXX.out, HKL.out] at hv
    obtain ⟨V_t, c_t, rfl, _, _, r_t, _⟩ := own_slice hv
    clear hv
    have B := below_go (Below.refl _ _) hb
    replace r_u := r_u.below B
    replace bb := below_go bb B
    clear B hb
    go_wp2_with fail
    refine (sameInts_any V_u V_t N N c_u c_t X X _ HKL.out HKL.out (by omega) r_u r_t).mono ?_
    rintro e w4 ⟨rfl, q, hq⟩
    have hb := below_of hq
    clear hq
    have B := below_go (Below.refl _ _) hb
    replace r_u := r_u.below B
    replace r_t := r_t.below B
    replace bb := below_go bb B
    clear B hb
    rw [show decide (X = X) = true by simp]
    clear r_u
    clear r_t
    go_wp2_with fail
    refine (wroom_any n m every _ Wn.out Wevery.out).mono ?_
    rintro e w5 ⟨rfl, e0⟩
    have hb := below_same e0.symm
    clear e0
    have B := below_go (Below.refl _ _) hb
    replace bb := below_go bb B
    clear B hb
    rw [HRM.out]
    go_wp2_with fail
    refine (rroom_any n m every _ Wn.out Wevery.out).mono ?_
    rintro e w6 ⟨rfl, hb⟩
    have B := below_go (Below.refl _ _) hb
    replace bb := below_go bb B
    clear B hb
    rw [HRM.out]
    go_wp2_with fail
    refine (wroot_any n _).mono ?_
    rintro e w7 ⟨r0, rfl, hr0, e0⟩
    have hb := below_same e0.symm
    clear e0
    have B := below_go (Below.refl _ _) hb
    replace bb := below_go bb B
    clear B hb
    have HR0 := Lib.hid hr0
    clear hr0
    go_wp2_with fail
    refine (rroot_any n _).mono ?_
    rintro e w8 ⟨r1, rfl, hr1, e0⟩
    have hb := below_same e0.symm
    clear e0
    have B := below_go (Below.refl _ _) hb
    replace bb := below_go bb B
    clear B hb
    obtain rfl := root_unique HR0.out hr1
    clear hr1 HR0
    go_wp2_with fail
    go_ret
    exact Yes.of bb

/-! ### The row's step -/
theorem own : ownKnob Try.prog.godebug = none := by kernel_rfl
theorem laidOut : laidOutB Try.prog = true := by kernel_rfl

set_option maxRecDepth 100000 in
theorem contract (H : Type) (enc : TypeId × Value → H) (W : World) (base : Nat) (args : Array Value) (ds gs : List (DataW H)) (before : List MemPlace)
    (hval : ∀ (j : Nat) t v, Try.f6.params[j]? = some t → args[j]? = some v → Value.okWide Try.prog W .any base t v)
    (hW : DataW.Whole enc Try.prog Try.f6.params.toList Rows.walkKeepsSpec.vars false W args.toList ds gs before) :
    Calls Try.prog 6 args W fun e W' => ∃ v, e = .returned v ∧ Rows.walkKeepsSpec.post enc Try.prog Try.f6 false true false false W args v W' := by
  have hW' := hW
  obtain ⟨p, q, hA0, hV, rfl, hfz, hnd⟩ := hW
  have hA : DataW.TrodAll enc Try.prog W 0 (fun _ => true) true Try.f6.params.toList args.toList ds p := hA0
  rw [Try.params6] at hA hval
  obtain ⟨v0, vs0, d0, ds0, p0, q0, hargs, rfl, rfl, h0, r0⟩ := trodAll_cons hA
  obtain ⟨v1, vs1, d1, ds1, p1, q1, rfl, rfl, rfl, h1, r1⟩ := trodAll_cons r0
  obtain ⟨v2, vs2, d2, ds2, p2, q2, rfl, rfl, rfl, h2, r2⟩ := trodAll_cons r1
  obtain ⟨rfl, rfl, rfl⟩ := trodAll_nil r2
  obtain rfl : args = #[v0, v1, v2] := by cases args; simp_all
  obtain ⟨rfl, rfl⟩ := trodVars_none hV
  have k0 := h0
  have lt0 : ∀ x ∈ p0, x.block < W.heap.size := by obtain ⟨m, hm⟩ := k0; exact DataW.trod_lt m _ _ _ hm
  obtain ⟨a0, e0, _, _, w0⟩ := open_int Try.underlying3 (hval 0 3 v0 rfl rfl) h0
  subst e0
  have k1 := h1
  have lt1 : ∀ x ∈ p1, x.block < W.heap.size := by obtain ⟨m, hm⟩ := k1; exact DataW.trod_lt m _ _ _ hm
  obtain ⟨a1, e1, _, _, w1⟩ := open_int Try.underlying3 (hval 1 3 v1 rfl rfl) h1
  subst e1
  have k2 := h2
  have lt2 : ∀ x ∈ p2, x.block < W.heap.size := by obtain ⟨m, hm⟩ := k2; exact DataW.trod_lt m _ _ _ hm
  obtain ⟨a2, e2, _, _, w2⟩ := open_int Try.underlying3 (hval 2 3 v2 rfl rfl) h2
  subst e2
  clear hA0
  refine (walkKeeps_walk a0 a1 a2 W w0 w1 w2).mono fun e W' ⟨he, bel⟩ => ?_
  subst he
  exact ⟨_, rfl, _, _, _, [], _, [], hW', trodAll_mk1 (shut_bool Try.underlying4 _), (trodAll_cons_mk (Below.trod laidOut (by kernel_rfl) (of_decide_eq_true (by kernel_rfl)) k0 bel lt0) (trodAll_cons_mk (Below.trod laidOut (by kernel_rfl) (of_decide_eq_true (by kernel_rfl)) k1 bel lt1) (trodAll_cons_mk (Below.trod laidOut (by kernel_rfl) (of_decide_eq_true (by kernel_rfl)) k2 bel lt2) trodAll_mk0))), rfl, bel.frame _, fun h => by cases h⟩

set_option maxRecDepth 100000 in
theorem lifted (os : Os) (started : os.Started) (H : Type) (enc : TypeId × Value → H) :
    ReturnsInHanded {} Try.checked os 6 .any (Rows.walkKeepsSpec.pre6 enc Try.prog Try.f6 Rows.walkKeepsRow.domain false) (Rows.walkKeepsSpec.post enc Try.prog Try.f6 false true false false) := by
  refine returnsInHanded_of_change (C := Try.checked) own started (by kernel_rfl) Try.func6
    (ChangeSpec.witness6 (enc := enc) (C := Try.checked) false ⟨#[], #[.int .i64 0, .int .i64 0, .int .i64 0], []⟩ 8 (by kernel_rfl) (by kernel_rfl) (by kernel_rfl) (by kernel_rfl)) ?_
  intro W base args ds gs before hval hW _ _
  exact contract H enc W base args ds gs before hval hW

/-- The statement. -/
theorem proved : Rows.WalkKeepsSaid :=
  OpenClaim.holds_of_wide 6 Try.f6 rfl rfl rfl rfl rfl rfl rfl ⟨rfl, rfl, rfl, rfl, rfl⟩ rfl rfl rfl rfl rfl (by kernel_rfl) Try.func6 (by kernel_rfl)
    (of_decide_eq_true (by kernel_rfl)) (by unfold Func.isWrapper; first | (rw [if_pos (by decide +kernel)]; kernel_rfl) | (rw [if_neg (by decide +kernel)]; exact ⟨rfl, rfl⟩))
    (fun os started H enc _ => lifted os started H enc)

end Go.Proofs.Ytncbhnmhaoblaaa.walkKeepsP
