/-
  Proved: for every input tattinglaw13.TileMore returns true, and its arguments read afterwards as before.
-/
import Derived.Test.YtbfgfeggiicmbaaTlW
import Derived.Test.YtbfgfeggiicmbaaArgs
import Derived.BigQuiet
namespace Go.Proofs.Ytbfgfeggiicmbaa.tileMoreP
open Go.ChangeShapes Go.WideShapes Go.ChangeAt Go.RowKit

theorem bitN_test (x k : Nat) : bitN x k = 1 ↔ x.testBit k = true := by
  unfold bitN
  rw [Nat.testBit_eq_decide_div_mod_eq]
  simp
theorem bitN_or {x y k : Nat} (h : bitN x k = 1) : bitN (x ||| y) k = 1 := by
  rw [bitN_test] at h ⊢
  rw [Nat.testBit_or, h]
  rfl

set_option maxRecDepth 100000 in
set_option maxHeartbeats 3200000 in
theorem tileMore_walk (t eq top left at_ : Int) (w : World) (ht : (Lit.int .u8 t).wf = true) (he : (Lit.int .u16 eq).wf = true) (hp : (Lit.int .u16 top).wf = true) (hl : (Lit.int .u16 left).wf = true) (ha : (Lit.int .u8 at_).wf = true) :
    Calls Try.prog 7 #[.int .u8 t, .int .u16 eq, .int .u16 top, .int .u16 left, .int .u8 at_] w (Yes w) := by
  have Bt := bounds_u8 ht
  have Be := bounds_u16 he
  have Bp := bounds_u16 hp
  have Bl := bounds_u16 hl
  obtain ⟨E, rfl⟩ := Int.eq_ofNat_of_zero_le Be.1
  obtain ⟨P, rfl⟩ := Int.eq_ofNat_of_zero_le Bp.1
  obtain ⟨L, rfl⟩ := Int.eq_ofNat_of_zero_le Bl.1
  have Ba := bounds_u8 ha
  obtain ⟨A, rfl⟩ := Int.eq_ofNat_of_zero_le Ba.1
  have wA : IntKind.i64.wrap (A : Int) = (A : Int) := IntWalk.i64_in _ (by omega)
  clear ha
  clear ht he hp hl
  obtain ⟨k, hk, hkt⟩ : ∃ k : Nat, k < 3 ∧ t.tmod 3 = (k : Int) := ⟨(t % 3).toNat, by omega, by rw [Int.tmod_eq_emod_of_nonneg Bt.1]; omega⟩
  obtain ⟨s, hs⟩ : ∃ s, 1 + k = s := ⟨_, rfl⟩
  have es : (1 : Int) + (k : Int) = (s : Int) := by omega
  have hS : 1 ≤ s ∧ s ≤ 3 := by omega
  obtain ⟨X, hX⟩ : ∃ X, s * s = X := ⟨_, rfl⟩
  have eX : (s : Int) * (s : Int) = (X : Int) := by rw [← hX]; simp
  have hX9 : X ≤ 9 := by rw [← hX]; exact sq_side hS.2
  have hX1 : 1 ≤ X := by rw [← hX]; exact Nat.mul_le_mul hS.1 hS.1
  obtain ⟨M, hM⟩ : ∃ M : Nat, 2 ^ X = M := ⟨_, rfl⟩
  obtain ⟨N, hN⟩ : ∃ N : Nat, 2 ^ s = N := ⟨_, rfl⟩
  have hM1 : 1 ≤ M := by rw [← hM]; exact Nat.two_pow_pos X
  have hN1 : 1 ≤ N := by rw [← hN]; exact Nat.two_pow_pos s
  have hM2 : M ≤ 512 := by rw [← hM]; exact Nat.pow_le_pow_right (n := 2) (by decide) hX9
  have hN2 : N ≤ 8 := by rw [← hN]; exact Nat.pow_le_pow_right (n := 2) (by decide) hS.2
  have pM : (2 : Int) ^ X = (M : Int) := by rw [← hM]; simp
  have pN : (2 : Int) ^ s = (N : Int) := by rw [← hN]; simp
  have wM : IntKind.i64.wrap (M : Int) = (M : Int) := IntWalk.i64_in _ (by omega)
  have wN : IntKind.i64.wrap (N : Int) = (N : Int) := IntWalk.i64_in _ (by omega)
  have wE : IntKind.i64.wrap (E : Int) = (E : Int) := IntWalk.i64_in _ (by omega)
  have wP : IntKind.i64.wrap (P : Int) = (P : Int) := IntWalk.i64_in _ (by omega)
  have wL : IntKind.i64.wrap (L : Int) = (L : Int) := IntWalk.i64_in _ (by omega)
  have wt : IntKind.i64.wrap t = t := IntWalk.i64_in _ (by omega)
  have wX : IntKind.i64.wrap (X : Int) = (X : Int) := IntWalk.i64_in _ (by omega)
  have zM : ((M : Int) == 0) = false := by simp; omega
  have zN : ((N : Int) == 0) = false := by simp; omega
  have zM2 : (M : Int) ≠ 0 := by omega
  have zN2 : (N : Int) ≠ 0 := by omega
  obtain ⟨q, hq⟩ : ∃ q, E % M = q := ⟨_, rfl⟩
  obtain ⟨p, hp⟩ : ∃ p, P % N = p := ⟨_, rfl⟩
  obtain ⟨l, hl⟩ : ∃ l, L % N = l := ⟨_, rfl⟩
  have tq : (E : Int).tmod (M : Int) = (q : Int) := by rw [Int.tmod_eq_emod_of_nonneg (by omega), ← hq]; simp
  have tp : (P : Int).tmod (N : Int) = (p : Int) := by rw [Int.tmod_eq_emod_of_nonneg (by omega), ← hp]; simp
  have tl : (L : Int).tmod (N : Int) = (l : Int) := by rw [Int.tmod_eq_emod_of_nonneg (by omega), ← hl]; simp
  have lq : q < 2 ^ X := by rw [hM, ← hq]; exact Nat.mod_lt _ hM1
  have lp : p < 2 ^ s := by rw [hN, ← hp]; exact Nat.mod_lt _ hN1
  have ll : l < 2 ^ s := by rw [hN, ← hl]; exact Nat.mod_lt _ hN1
  have LQ := Lib.hid lq
  have LP := Lib.hid lp
  have LL := Lib.hid ll
  have HX := Lib.hid hX
  have HM := Lib.hid hM
  have HN := Lib.hid hN
  rw [hM] at lq
  rw [hN] at lp ll
  clear hq hp hl hX hM hN hs
  obtain ⟨a, ha⟩ : ∃ a, A % X = a := ⟨_, rfl⟩
  have ta : (A : Int).tmod (X : Int) = (a : Int) := by rw [Int.tmod_eq_emod_of_nonneg (by omega), ← ha]; simp
  have la : a < X := by rw [← ha]; exact Nat.mod_lt _ hX1
  have zX : ((X : Int) == 0) = false := by simp; omega
  have zX2 : (X : Int) ≠ 0 := by omega
  obtain ⟨D, hD⟩ : ∃ D : Nat, 2 ^ a = D := ⟨_, rfl⟩
  have pa : (2 : Int) ^ a = (D : Int) := by rw [← hD]; simp
  have lD : D ≤ 512 := by rw [← hD]; exact Nat.pow_le_pow_right (n := 2) (by decide) (show a ≤ 9 by omega)
  have wD : IntKind.i64.wrap (D : Int) = (D : Int) := IntWalk.i64_in _ (by omega)
  have oq := or_i64 (a := q) (b := D) (by omega) (by omega)
  have LM : Hid (q ||| D < 2 ^ X) := Nat.or_lt_two_pow LQ.out (by rw [← hD]; exact Nat.pow_lt_pow_right (by decide) la)
  have HB : Hid (∀ k, bitN q k = 1 → bitN (q ||| D) k = 1) := fun k h => bitN_or h
  clear ha hD
  obtain ⟨mo, hmo⟩ : ∃ m, q ||| D = m := ⟨_, rfl⟩
  rw [hmo] at oq LM HB
  clear hmo
  go_enter Try.func7, Try.ntmps7
  go_wp2_with fail
  refine (of_ok s w hS).mono ?_
  rintro e w1 ⟨b, rfl, hO, h0, bb⟩
  have hT : Til s b w1 := .inl ⟨_, hO⟩
  clear hO
  go_wp2_with fail
  refine (awake13 _).mono ?_
  rintro e w2 ⟨rfl, hb⟩
  replace hT := hT.below hb
  replace bb := below_go bb hb
  clear hb
  go_wp2_with fail
  go_quiet (fail)
  replace hT := hT.drewN nq
  replace bb := below_drewN bb nq
  generalize w2.drewN nq = wa at *
  have V1 := Lib.hid (lookV_yes (inSq_of (t := s) (e := q) (p := p) (l := l) (by rw [HX.out]; exact LQ.out) LP.out LL.out))
  have V2 := Lib.hid (lookV_yes (inSq_of (t := s) (e := mo) (p := p) (l := l) (by rw [HX.out]; exact LM.out) LP.out LL.out))
  have V3 : Hid (lookV s 0 p 0 = .tuple #[.int .i64 (botN s 0 p 0 : Nat), .int .i64 (rgtN s 0 p 0 : Nat), .int .i64 0]) := lookV_yes (inSq_of (t := s) (e := 0) (p := p) (l := 0) (Nat.two_pow_pos _) LP.out (Nat.two_pow_pos _))
  have V4 : Hid (lookV s 0 0 l = .tuple #[.int .i64 (botN s 0 0 l : Nat), .int .i64 (rgtN s 0 0 l : Nat), .int .i64 0]) := lookV_yes (inSq_of (t := s) (e := 0) (p := 0) (l := l) (Nat.two_pow_pos _) (Nat.two_pow_pos _) LL.out)
  rw [look_none] at V3
  rw [(look_left LL.out).1, (look_left LL.out).2] at V4
  have hle := look_more (t := s) (eq := q) (more := mo) (top := p) (left := l) (by omega) HB.out
  clear HB LM
  generalize botN s q p l = B1 at *
  generalize rgtN s q p l = R1 at *
  generalize botN s mo p l = B2 at *
  generalize rgtN s mo p l = R2 at *
  generalize botN s 0 p 0 = B3 at *
  go_wp2_with fail
  refine (look_w s b q p l _ w wa hS hT bb h0 V1.out).mono ?_
  rintro e w3 ⟨rfl, hT, bb, _⟩
  clear V1
  go_wp2_with fail
  refine (look_w s b mo p l _ w w3 hS hT bb h0 V2.out).mono ?_
  rintro e w4 ⟨rfl, hT, bb, _⟩
  clear V2
  go_wp2_with fail
  refine (look_w s b 0 p 0 _ w w4 hS hT bb h0 V3.out).mono ?_
  rintro e w5 ⟨rfl, hT, bb, _⟩
  clear V3
  go_wp2_with fail
  refine (look_w s b 0 0 l _ w w5 hS hT bb h0 V4.out).mono ?_
  rintro e w6 ⟨rfl, hT, bb, _⟩
  clear V4 hT
  go_wp2_with fail
  refine (ones_any R2 w6).mono ?_
  rintro e w' ⟨rfl, rfl⟩
  go_wp2_with fail
  refine (ones_any R1 w6).mono ?_
  rintro e w' ⟨rfl, rfl⟩
  generalize ones R1 = O1 at *
  generalize ones R2 = O2 at *
  go_wp2_with fail
  go_ret
  exact Yes.of bb

/-! ### The row's step -/
theorem own : ownKnob Try.prog.godebug = none := by kernel_rfl
theorem laidOut : laidOutB Try.prog = true := by kernel_rfl

theorem contract (H : Type) (enc : TypeId × Value → H) (W : World) (base : Nat) (args : Array Value) (ds gs : List (DataW H)) (before : List MemPlace)
    (hval : ∀ (j : Nat) t v, Try.f7.params[j]? = some t → args[j]? = some v → Value.okWide Try.prog W .any base t v)
    (hW : DataW.Whole enc Try.prog Try.f7.params.toList Rows.tileMoreSpec.vars false W args.toList ds gs before) :
    Calls Try.prog 7 args W fun e W' => ∃ v, e = .returned v ∧ Rows.tileMoreSpec.post enc Try.prog Try.f7 false true false false W args v W' := by
  have hW' := hW
  obtain ⟨p, q, hA0, hV, rfl, hfz, hnd⟩ := hW
  have hA : DataW.TrodAll enc Try.prog W 0 (fun _ => true) true Try.f7.params.toList args.toList ds p := hA0
  rw [Try.params7] at hA hval
  obtain ⟨v0, vs0, d0, ds0, p0, q0, hargs, rfl, rfl, h0, r0⟩ := trodAll_cons hA
  obtain ⟨v1, vs1, d1, ds1, p1, q1, rfl, rfl, rfl, h1, r1⟩ := trodAll_cons r0
  obtain ⟨v2, vs2, d2, ds2, p2, q2, rfl, rfl, rfl, h2, r2⟩ := trodAll_cons r1
  obtain ⟨v3, vs3, d3, ds3, p3, q3, rfl, rfl, rfl, h3, r3⟩ := trodAll_cons r2
  obtain ⟨v4, vs4, d4, ds4, p4, q4, rfl, rfl, rfl, h4, r4⟩ := trodAll_cons r3
  obtain ⟨rfl, rfl, rfl⟩ := trodAll_nil r4
  obtain rfl : args = #[v0, v1, v2, v3, v4] := by cases args; simp_all
  obtain ⟨rfl, rfl⟩ := trodVars_none hV
  have k0 := h0
  have lt0 : ∀ x ∈ p0, x.block < W.heap.size := by obtain ⟨m, hm⟩ := k0; exact DataW.trod_lt m _ _ _ hm
  obtain ⟨a0, e0, _, _, w0⟩ := open_int Try.underlying5 (hval 0 5 v0 rfl rfl) h0
  subst e0
  have k1 := h1
  have lt1 : ∀ x ∈ p1, x.block < W.heap.size := by obtain ⟨m, hm⟩ := k1; exact DataW.trod_lt m _ _ _ hm
  obtain ⟨a1, e1, _, _, w1⟩ := open_int Try.underlying34 (hval 1 34 v1 rfl rfl) h1
  subst e1
  have k2 := h2
  have lt2 : ∀ x ∈ p2, x.block < W.heap.size := by obtain ⟨m, hm⟩ := k2; exact DataW.trod_lt m _ _ _ hm
  obtain ⟨a2, e2, _, _, w2⟩ := open_int Try.underlying34 (hval 2 34 v2 rfl rfl) h2
  subst e2
  have k3 := h3
  have lt3 : ∀ x ∈ p3, x.block < W.heap.size := by obtain ⟨m, hm⟩ := k3; exact DataW.trod_lt m _ _ _ hm
  obtain ⟨a3, e3, _, _, w3⟩ := open_int Try.underlying34 (hval 3 34 v3 rfl rfl) h3
  subst e3
  have k4 := h4
  have lt4 : ∀ x ∈ p4, x.block < W.heap.size := by obtain ⟨m, hm⟩ := k4; exact DataW.trod_lt m _ _ _ hm
  obtain ⟨a4, e4, _, _, w4⟩ := open_int Try.underlying5 (hval 4 5 v4 rfl rfl) h4
  subst e4
  clear hA0
  refine (tileMore_walk a0 a1 a2 a3 a4 W w0 w1 w2 w3 w4).mono fun e W' ⟨he, bel⟩ => ?_
  subst he
  exact ⟨_, rfl, _, _, _, [], _, [], hW', trodAll_mk1 (shut_bool Try.underlying4 _), (trodAll_cons_mk (Below.trod laidOut (by kernel_rfl) (of_decide_eq_true (by kernel_rfl)) k0 bel lt0) (trodAll_cons_mk (Below.trod laidOut (by kernel_rfl) (of_decide_eq_true (by kernel_rfl)) k1 bel lt1) (trodAll_cons_mk (Below.trod laidOut (by kernel_rfl) (of_decide_eq_true (by kernel_rfl)) k2 bel lt2) (trodAll_cons_mk (Below.trod laidOut (by kernel_rfl) (of_decide_eq_true (by kernel_rfl)) k3 bel lt3) (trodAll_cons_mk (Below.trod laidOut (by kernel_rfl) (of_decide_eq_true (by kernel_rfl)) k4 bel lt4) trodAll_mk0))))), rfl, bel.frame _, fun h => by cases h⟩

set_option maxRecDepth 100000 in
theorem lifted (os : Os) (started : os.Started) (H : Type) (enc : TypeId × Value → H) :
    ReturnsInHanded {} Try.checked os 7 .any (Rows.tileMoreSpec.pre6 enc Try.prog Try.f7 Rows.tileMoreRow.domain false) (Rows.tileMoreSpec.post enc Try.prog Try.f7 false true false false) := by
  refine returnsInHanded_of_change (C := Try.checked) own started (by kernel_rfl) Try.func7
    (ChangeSpec.witness6 (enc := enc) (C := Try.checked) false ⟨#[], #[.int .u8 0, .int .u16 0, .int .u16 0, .int .u16 0, .int .u8 0], []⟩ 8 (by kernel_rfl) (by kernel_rfl) (by kernel_rfl) (by kernel_rfl)) ?_
  intro W base args ds gs before hval hW _ _
  exact contract H enc W base args ds gs before hval hW

/-- The statement. -/
theorem proved : Rows.TileMoreSaid :=
  OpenClaim.holds_of_wide 7 Try.f7 rfl rfl rfl rfl rfl rfl rfl ⟨rfl, rfl, rfl, rfl, rfl⟩ rfl rfl rfl rfl rfl (by kernel_rfl) Try.func7 (by kernel_rfl)
    (of_decide_eq_true (by kernel_rfl)) (by unfold Func.isWrapper; first | (rw [if_pos (by decide +kernel)]; kernel_rfl) | (rw [if_neg (by decide +kernel)]; exact ⟨rfl, rfl⟩))
    (fun os started H enc _ => lifted os started H enc)

end Go.Proofs.Ytbfgfeggiicmbaa.tileMoreP
