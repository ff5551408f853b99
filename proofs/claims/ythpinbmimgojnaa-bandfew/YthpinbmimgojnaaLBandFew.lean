/-
  Proved: for every input tattinglaw19.BandFew returns true, and its arguments read afterwards as before.
-/
import Derived.Test.YthpinbmimgojnaaM29
import Derived.Test.YthpinbmimgojnaaM31
namespace Go.Proofs.Ythpinbmimgojnaa.bandFewP
open Go.ChangeShapes Go.WideShapes Go.ChangeAt Go.RowKit
open Go.ChangeMaps (open_string shut_string)

set_option maxRecDepth 100000 in
set_option maxHeartbeats 3200000 in
theorem bandFew_walk (n : Int) (m : Int) (kk : Int) (w : World) (hn : (Lit.int .u8 n).wf = true) (hm : (Lit.int .u8 m).wf = true) (hkk : (Lit.int .u8 kk).wf = true) :
    Calls Try.prog 8 #[.int .u8 n, .int .u8 m, .int .u8 kk] w (Yes w) := by
  have Bn := bounds_u8 hn
  have Bm := bounds_u8 hm
  have Bk := bounds_u8 hkk
  clear hn hm hkk
  obtain ⟨X, hX, p1, p2⟩ := rem61 n Bn.1
  obtain ⟨Y, hY, q1, q2⟩ := rem61 m Bm.1
  have wn : IntKind.i64.wrap n = n := IntWalk.i64_in _ (by omega)
  have wm : IntKind.i64.wrap m = m := IntWalk.i64_in _ (by omega)
  obtain ⟨Z, hZ⟩ : ∃ Z : Nat, kk = (Z : Int) := ⟨kk.toNat, by omega⟩
  subst hZ
  have hZ : Z ≤ 255 := by omega
  have HC1 := Lib.hid (clI_in X Y Z (by omega) (by omega))
  have HC2 : Hid (clI (X : Int) (Y : Int) ((Z : Int) + 1) = clQ X Y (Z + 1)) := clI_in X Y (Z + 1) (by omega) (by omega)
  have HC3 : Hid (clI (Y : Int) (X : Int) (Z : Int) = clQ X Y Z) := by show _ = _; rw [clI_in Y X Z (by omega) (by omega), cl_comm]
  have HC4 : Hid (clI (X : Int) (Y : Int) ((X : Int) + (Y : Int)) = (X + 1) * (Y + 1)) := by
    show _ = _
    have := clI_in X Y (X + Y) (by omega) (by omega)
    rw [cl_all (Nat.le_refl _)] at this
    exact this
  have hC5 := cl_few X Y Z
  have hC6 := cl_mono X Y (show Z ≤ Z + 1 by omega)
  have hC7 := clQ_le X Y (Z + 1) (by omega) (by omega)
  generalize clQ X Y Z = C at *
  generalize clQ X Y (Z + 1) = D at *
  obtain ⟨S, hS⟩ : ∃ S, min X Y = S := ⟨_, rfl⟩
  rw [hS] at hC5
  have hS2 : S ≤ 60 := by omega
  have hmn : min (X : Int) (Y : Int) = (S : Int) := by omega
  obtain ⟨P, hP⟩ : ∃ P, (Z + 1) * (S + 1) = P := ⟨_, rfl⟩
  have hP2 : P ≤ 256 * 61 := by rw [← hP]; exact Nat.mul_le_mul (by omega) (by omega)
  rw [hP] at hC5
  have m1 : ((Z : Int) + 1) * ((S : Int) + 1) = (P : Int) := by rw [← hP]; simp
  obtain ⟨Q, hQ⟩ : ∃ Q, (X + 1) * (Y + 1) = Q := ⟨_, rfl⟩
  have hQ2 : Q ≤ 61 * 61 := by rw [← hQ]; exact Nat.mul_le_mul (by omega) (by omega)
  rw [hQ] at HC4
  have m2 : ((X : Int) + 1) * ((Y : Int) + 1) = (Q : Int) := by rw [← hQ]; simp
  clear hP hQ
  go_enter Try.func8, Try.ntmps8
  go_wp2_with fail
  refine (awake19 _).mono ?_
  rintro e w1 ⟨rfl, hb⟩
  have B := below_go (Below.refl _ _) hb
  have bb := B
  clear B hb
  go_wp2_with fail
  refine (cells_w (X : Int) (Y : Int) (Z : Int) _ (by unfold I64; omega)).mono ?_
  rintro e w2 ⟨rfl, hb⟩
  have B := below_go (Below.refl _ _) hb
  replace bb := below_go bb B
  clear B hb
  rw [HC1.out]
  rcases (show (X < Y ∧ X = S) ∨ (Y ≤ X ∧ Y = S) by omega) with ⟨hlt, rfl⟩ | ⟨hlt, rfl⟩
  · clear hS
    go_wp2_with fail
    refine (cells_w (X : Int) (Y : Int) ((Z : Int) + 1) _ (by unfold I64; omega)).mono ?_
    rintro e w3 ⟨rfl, hb⟩
    have B := below_go (Below.refl _ _) hb
    replace bb := below_go bb B
    clear B hb
    rw [HC2.out]
    go_wp2_with fail
    refine (cells_w (X : Int) (Y : Int) (Z : Int) _ (by unfold I64; omega)).mono ?_
    rintro e w4 ⟨rfl, hb⟩
    have B := below_go (Below.refl _ _) hb
    replace bb := below_go bb B
    clear B hb
    rw [HC1.out]
    go_wp2_with fail
    refine (cells_w (Y : Int) (X : Int) (Z : Int) _ (by unfold I64; omega)).mono ?_
    rintro e w5 ⟨rfl, hb⟩
    have B := below_go (Below.refl _ _) hb
    replace bb := below_go bb B
    clear B hb
    rw [HC3.out]
    go_wp2_with fail
    refine (cells_w (X : Int) (Y : Int) ((X : Int) + (Y : Int)) _ (by unfold I64; omega)).mono ?_
    rintro e w6 ⟨rfl, hb⟩
    have B := below_go (Below.refl _ _) hb
    replace bb := below_go bb B
    clear B hb
    rw [HC4.out]
    go_wp2_with fail
    go_ret
    exact Yes.of bb
  · clear hS
    go_wp2_with fail
    refine (cells_w (X : Int) (Y : Int) ((Z : Int) + 1) _ (by unfold I64; omega)).mono ?_
    rintro e w3 ⟨rfl, hb⟩
    have B := below_go (Below.refl _ _) hb
    replace bb := below_go bb B
    clear B hb
    rw [HC2.out]
    go_wp2_with fail
    refine (cells_w (X : Int) (Y : Int) (Z : Int) _ (by unfold I64; omega)).mono ?_
    rintro e w4 ⟨rfl, hb⟩
    have B := below_go (Below.refl _ _) hb
    replace bb := below_go bb B
    clear B hb
    rw [HC1.out]
    go_wp2_with fail
    refine (cells_w (Y : Int) (X : Int) (Z : Int) _ (by unfold I64; omega)).mono ?_
    rintro e w5 ⟨rfl, hb⟩
    have B := below_go (Below.refl _ _) hb
    replace bb := below_go bb B
    clear B hb
    rw [HC3.out]
    go_wp2_with fail
    refine (cells_w (X : Int) (Y : Int) ((X : Int) + (Y : Int)) _ (by unfold I64; omega)).mono ?_
    rintro e w6 ⟨rfl, hb⟩
    have B := below_go (Below.refl _ _) hb
    replace bb := below_go bb B
    clear B hb
    rw [HC4.out]
    go_wp2_with fail
    go_ret
    exact Yes.of bb

/-! ### The row's step -/
theorem own : ownKnob Try.prog.godebug = none := by kernel_rfl
theorem laidOut : laidOutB Try.prog = true := by kernel_rfl

set_option maxRecDepth 100000 in
theorem contract (H : Type) (enc : TypeId × Value → H) (W : World) (base : Nat) (args : Array Value) (ds gs : List (DataW H)) (before : List MemPlace)
    (hval : ∀ (j : Nat) t v, Try.f8.params[j]? = some t → args[j]? = some v → Value.okWide Try.prog W .any base t v)
    (hW : DataW.Whole enc Try.prog Try.f8.params.toList Rows.bandFewSpec.vars false W args.toList ds gs before) :
    Calls Try.prog 8 args W fun e W' => ∃ v, e = .returned v ∧ Rows.bandFewSpec.post enc Try.prog Try.f8 false true false false W args v W' := by
  have hW' := hW
  obtain ⟨p, q, hA0, hV, rfl, hfz, hnd⟩ := hW
  have hA : DataW.TrodAll enc Try.prog W 0 (fun _ => true) true Try.f8.params.toList args.toList ds p := hA0
  rw [Try.params8] at hA hval
  obtain ⟨v0, vs0, d0, ds0, p0, q0, hargs, rfl, rfl, h0, r0⟩ := trodAll_cons hA
  obtain ⟨v1, vs1, d1, ds1, p1, q1, rfl, rfl, rfl, h1, r1⟩ := trodAll_cons r0
  obtain ⟨v2, vs2, d2, ds2, p2, q2, rfl, rfl, rfl, h2, r2⟩ := trodAll_cons r1
  obtain ⟨rfl, rfl, rfl⟩ := trodAll_nil r2
  obtain rfl : args = #[v0, v1, v2] := by cases args; simp_all
  obtain ⟨rfl, rfl⟩ := trodVars_none hV
  have k0 := h0
  have lt0 : ∀ x ∈ p0, x.block < W.heap.size := by obtain ⟨m, hm⟩ := k0; exact DataW.trod_lt m _ _ _ hm
  obtain ⟨a0, e0, _, _, w0⟩ := open_int Try.underlying5 (hval 0 5 v0 rfl rfl) h0
  subst e0
  have k1 := h1
  have lt1 : ∀ x ∈ p1, x.block < W.heap.size := by obtain ⟨m, hm⟩ := k1; exact DataW.trod_lt m _ _ _ hm
  obtain ⟨a1, e1, _, _, w1⟩ := open_int Try.underlying5 (hval 1 5 v1 rfl rfl) h1
  subst e1
  have k2 := h2
  have lt2 : ∀ x ∈ p2, x.block < W.heap.size := by obtain ⟨m, hm⟩ := k2; exact DataW.trod_lt m _ _ _ hm
  obtain ⟨a2, e2, _, _, w2⟩ := open_int Try.underlying5 (hval 2 5 v2 rfl rfl) h2
  subst e2
  clear hA0
  refine (bandFew_walk a0 a1 a2 W w0 w1 w2).mono fun e W' ⟨he, bel⟩ => ?_
  subst he
  exact ⟨_, rfl, _, _, _, [], _, [], hW', trodAll_mk1 (shut_bool Try.underlying4 _), (trodAll_cons_mk (Below.trod laidOut (by kernel_rfl) (of_decide_eq_true (by kernel_rfl)) k0 bel lt0) (trodAll_cons_mk (Below.trod laidOut (by kernel_rfl) (of_decide_eq_true (by kernel_rfl)) k1 bel lt1) (trodAll_cons_mk (Below.trod laidOut (by kernel_rfl) (of_decide_eq_true (by kernel_rfl)) k2 bel lt2) trodAll_mk0))), rfl, bel.frame _, fun h => by cases h⟩

set_option maxRecDepth 100000 in
theorem lifted (os : Os) (started : os.Started) (H : Type) (enc : TypeId × Value → H) :
    ReturnsInHanded {} Try.checked os 8 .any (Rows.bandFewSpec.pre6 enc Try.prog Try.f8 Rows.bandFewRow.domain false) (Rows.bandFewSpec.post enc Try.prog Try.f8 false true false false) := by
  refine returnsInHanded_of_change (C := Try.checked) own started (by kernel_rfl) Try.func8
    (ChangeSpec.witness6 (enc := enc) (C := Try.checked) false ⟨#[], #[.int .u8 0, .int .u8 0, .int .u8 0], []⟩ 8 (by kernel_rfl) (by kernel_rfl) (by kernel_rfl) (by kernel_rfl)) ?_
  intro W base args ds gs before hval hW _ _
  exact contract H enc W base args ds gs before hval hW

/-- The statement. -/
theorem proved : Rows.BandFewSaid :=
  OpenClaim.holds_of_wide 8 Try.f8 rfl rfl rfl rfl rfl rfl rfl ⟨rfl, rfl, rfl, rfl, rfl⟩ rfl rfl rfl rfl rfl (by kernel_rfl) Try.func8 (by kernel_rfl)
    (of_decide_eq_true (by kernel_rfl)) (by unfold Func.isWrapper; first | (rw [if_pos (by decide +kernel)]; kernel_rfl) | (rw [if_neg (by decide +kernel)]; exact ⟨rfl, rfl⟩))
    (fun os started H enc _ => lifted os started H enc)

end Go.Proofs.Ythpinbmimgojnaa.bandFewP
