/-
  Proved: for every input tattinglaw22.WalkLittle returns true, and its arguments read afterwards as before.
-/
import Derived.Test.YtncbhnmhaoblaaaM44
import Derived.Test.YtncbhnmhaoblaaaM9
namespace Go.Proofs.Ytncbhnmhaoblaaa.walkLittleP
open Go.ChangeShapes Go.WideShapes Go.ChangeAt Go.RowKit
open Go.ChangeMaps (open_string shut_string)

set_option maxRecDepth 100000 in
set_option maxHeartbeats 3200000 in
theorem walkLittle_walk (n : Int) (m : Int) (w : World) (hn : (Lit.int .u16 n).wf = true) (hm : (Lit.int .u16 m).wf = true) :
    Calls Try.prog 7 #[.int .u16 n, .int .u16 m] w (Yes w) := by
  have Bn := bounds_u16 hn
  have Bm := bounds_u16 hm
  clear hn hm
  go_enter Try.func7, Try.ntmps7
  go_wp2_with fail
  refine (awake22 _).mono ?_
  rintro e w1 ⟨rfl, hb⟩
  have B := below_go (Below.refl _ _) hb
  have bb := B
  clear B hb
  obtain ⟨X, hX, x1, x2⟩ : ∃ X : Nat, X ≤ 2000 ∧ n % 2001 = (X : Int) ∧ n.tmod 2001 = (X : Int) := ⟨(n % 2001).toNat, by omega, by omega, by rw [Int.tmod_eq_emod_of_nonneg Bn.1]; omega⟩
  obtain ⟨Y, hY, y1, y2⟩ : ∃ Y : Nat, Y ≤ 2000 ∧ m % 2001 = (Y : Int) ∧ m.tmod 2001 = (Y : Int) := ⟨(m % 2001).toNat, by omega, by omega, by rw [Int.tmod_eq_emod_of_nonneg Bm.1]; omega⟩
  have wn : IntKind.i64.wrap n = n := IntWalk.i64_in _ (by omega)
  have wm : IntKind.i64.wrap m = m := IntWalk.i64_in _ (by omega)
  go_wp2_with fail
  refine (wroot_any (X : Int) _).mono ?_
  rintro e w2 ⟨r, rfl, hr0, e0⟩
  have hb := below_same e0.symm
  clear e0
  have B := below_go (Below.refl _ _) hb
  replace bb := below_go bb B
  clear B hb
  have hmin : (min (X : Int) 1048576).toNat = X := by omega
  rw [hmin] at hr0
  obtain ⟨R, R2, R3, W, P, a1, a2, a3, a4, a5, a6, a7, a8, a9, a10, a11, a12⟩ := little X Y r hX hY hr0
  have HRoom := Lib.hid a7
  have m1 : (r : Int) * (r : Int) = (R2 : Int) := by rw [← a3]; simp
  have m2 : (2 * (r : Int) + 1) * (W : Int) = (P : Int) := by rw [← a10]; simp
  have d1 : ((Y : Int) + 63) / 64 = (W : Int) := by omega
  have d2 : ((Y : Int) + 63).tdiv 64 = (W : Int) := by rw [Int.tdiv_eq_ediv_of_nonneg (by omega)]; exact d1
  have hWb : W ≤ 33 := by omega
  have c1 : (1 : Int) ≤ (r : Int) := by omega
  have c2 : (X : Int) ≤ (R2 : Int) := by omega
  have c3 : (W : Int) ≤ (R : Int) := by omega
  have c4 : (R : Int) ≤ (P : Int) := by omega
  clear hmin hr0 a3 a7 a8 a10 x1 x2 y1 y2 wn wm Bn Bm
  rcases a6 with rfl | ⟨a6, a7⟩
  · have c8 : (R : Int) ≤ 3 * (W : Int) := by omega
    go_wp2_with fail
    refine (wroom_any (X : Int) (Y : Int) ((1 : Nat) : Int) _ (i64_small (by omega)) (i64_small (by omega))).mono ?_
    rintro e w3 ⟨rfl, e0⟩
    have hb := below_same e0.symm
    clear e0
    have B := below_go (Below.refl _ _) hb
    replace bb := below_go bb B
    clear B hb
    rw [HRoom.out]
    go_wp2_with fail
    refine (wroom_any (X : Int) (Y : Int) ((1 : Nat) : Int) _ (i64_small (by omega)) (i64_small (by omega))).mono ?_
    rintro e w4 ⟨rfl, e0⟩
    have hb := below_same e0.symm
    clear e0
    have B := below_go (Below.refl _ _) hb
    replace bb := below_go bb B
    clear B hb
    rw [HRoom.out]
    go_wp2_with fail
    go_ret
    exact Yes.of bb
  · have c5 : ((r : Int) == 1) = false ∨ r = 1 := by
      by_cases h : r = 1
      · exact .inr h
      · exact .inl (by simp; omega)
    have c6 : (R3 : Int) < (X : Int) := by omega
    have c7 : R3 ≤ 1048576 := by omega
    rcases c5 with c5 | rfl
    · go_wp2_with fail
      refine (wroom_any (X : Int) (Y : Int) (r : Int) _ (i64_small (by omega)) (i64_small (by omega))).mono ?_
      rintro e w3 ⟨rfl, e0⟩
      have hb := below_same e0.symm
      clear e0
      have B := below_go (Below.refl _ _) hb
      replace bb := below_go bb B
      clear B hb
      rw [HRoom.out]
      go_wp2_with fail
      refine (wroom_any (X : Int) (Y : Int) (r : Int) _ (i64_small (by omega)) (i64_small (by omega))).mono ?_
      rintro e w4 ⟨rfl, e0⟩
      have hb := below_same e0.symm
      clear e0
      have B := below_go (Below.refl _ _) hb
      replace bb := below_go bb B
      clear B hb
      rw [HRoom.out]
      go_wp2_with fail
      go_ret
      exact Yes.of bb
    · have c8 : (R : Int) ≤ 3 * (W : Int) := by omega
      go_wp2_with fail
      refine (wroom_any (X : Int) (Y : Int) ((1 : Nat) : Int) _ (i64_small (by omega)) (i64_small (by omega))).mono ?_
      rintro e w3 ⟨rfl, e0⟩
      have hb := below_same e0.symm
      clear e0
      have B := below_go (Below.refl _ _) hb
      replace bb := below_go bb B
      clear B hb
      rw [HRoom.out]
      go_wp2_with fail
      refine (wroom_any (X : Int) (Y : Int) ((1 : Nat) : Int) _ (i64_small (by omega)) (i64_small (by omega))).mono ?_
      rintro e w4 ⟨rfl, e0⟩
      have hb := below_same e0.symm
      clear e0
      have B := below_go (Below.refl _ _) hb
      replace bb := below_go bb B
      clear B hb
      rw [HRoom.out]
      go_wp2_with fail
      go_ret
      exact Yes.of bb

/-! ### The row's step -/
theorem own : ownKnob Try.prog.godebug = none := by kernel_rfl
theorem laidOut : laidOutB Try.prog = true := by kernel_rfl

set_option maxRecDepth 100000 in
theorem contract (H : Type) (enc : TypeId × Value → H) (W : World) (base : Nat) (args : Array Value) (ds gs : List (DataW H)) (before : List MemPlace)
    (hval : ∀ (j : Nat) t v, Try.f7.params[j]? = some t → args[j]? = some v → Value.okWide Try.prog W .any base t v)
    (hW : DataW.Whole enc Try.prog Try.f7.params.toList Rows.walkLittleSpec.vars false W args.toList ds gs before) :
    Calls Try.prog 7 args W fun e W' => ∃ v, e = .returned v ∧ Rows.walkLittleSpec.post enc Try.prog Try.f7 false true false false W args v W' := by
  have hW' := hW
  obtain ⟨p, q, hA0, hV, rfl, hfz, hnd⟩ := hW
  have hA : DataW.TrodAll enc Try.prog W 0 (fun _ => true) true Try.f7.params.toList args.toList ds p := hA0
  rw [Try.params7] at hA hval
  obtain ⟨v0, vs0, d0, ds0, p0, q0, hargs, rfl, rfl, h0, r0⟩ := trodAll_cons hA
  obtain ⟨v1, vs1, d1, ds1, p1, q1, rfl, rfl, rfl, h1, r1⟩ := trodAll_cons r0
  obtain ⟨rfl, rfl, rfl⟩ := trodAll_nil r1
  obtain rfl : args = #[v0, v1] := by cases args; simp_all
  obtain ⟨rfl, rfl⟩ := trodVars_none hV
  have k0 := h0
  have lt0 : ∀ x ∈ p0, x.block < W.heap.size := by obtain ⟨m, hm⟩ := k0; exact DataW.trod_lt m _ _ _ hm
  obtain ⟨a0, e0, _, _, w0⟩ := open_int Try.underlying43 (hval 0 43 v0 rfl rfl) h0
  subst e0
  have k1 := h1
  have lt1 : ∀ x ∈ p1, x.block < W.heap.size := by obtain ⟨m, hm⟩ := k1; exact DataW.trod_lt m _ _ _ hm
  obtain ⟨a1, e1, _, _, w1⟩ := open_int Try.underlying43 (hval 1 43 v1 rfl rfl) h1
  subst e1
  clear hA0
  refine (walkLittle_walk a0 a1 W w0 w1).mono fun e W' ⟨he, bel⟩ => ?_
  subst he
  exact ⟨_, rfl, _, _, _, [], _, [], hW', trodAll_mk1 (shut_bool Try.underlying4 _), (trodAll_cons_mk (Below.trod laidOut (by kernel_rfl) (of_decide_eq_true (by kernel_rfl)) k0 bel lt0) (trodAll_cons_mk (Below.trod laidOut (by kernel_rfl) (of_decide_eq_true (by kernel_rfl)) k1 bel lt1) trodAll_mk0)), rfl, bel.frame _, fun h => by cases h⟩

set_option maxRecDepth 100000 in
theorem lifted (os : Os) (started : os.Started) (H : Type) (enc : TypeId × Value → H) :
    ReturnsInHanded {} Try.checked os 7 .any (Rows.walkLittleSpec.pre6 enc Try.prog Try.f7 Rows.walkLittleRow.domain false) (Rows.walkLittleSpec.post enc Try.prog Try.f7 false true false false) := by
  refine returnsInHanded_of_change (C := Try.checked) own started (by kernel_rfl) Try.func7
    (ChangeSpec.witness6 (enc := enc) (C := Try.checked) false ⟨#[], #[.int .u16 0, .int .u16 0], []⟩ 8 (by kernel_rfl) (by kernel_rfl) (by kernel_rfl) (by kernel_rfl)) ?_
  intro W base args ds gs before hval hW _ _
  exact contract H enc W base args ds gs before hval hW

/-- The statement. -/
theorem proved : Rows.WalkLittleSaid :=
  OpenClaim.holds_of_wide 7 Try.f7 rfl rfl rfl rfl rfl rfl rfl ⟨rfl, rfl, rfl, rfl, rfl⟩ rfl rfl rfl rfl rfl (by kernel_rfl) Try.func7 (by kernel_rfl)
    (of_decide_eq_true (by kernel_rfl)) (by unfold Func.isWrapper; first | (rw [if_pos (by decide +kernel)]; kernel_rfl) | (rw [if_neg (by decide +kernel)]; exact ⟨rfl, rfl⟩))
    (fun os started H enc _ => lifted os started H enc)

end Go.Proofs.Ytncbhnmhaoblaaa.walkLittleP
