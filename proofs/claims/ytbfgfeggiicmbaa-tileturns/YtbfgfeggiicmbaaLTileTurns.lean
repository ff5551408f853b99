/-
  Proved: for every input tattinglaw13.TileTurns returns true, and its arguments read afterwards as before.
-/
import Derived.Test.YtbfgfeggiicmbaaTlW
import Derived.Test.YtbfgfeggiicmbaaArgs
import Derived.BigQuiet
namespace Go.Proofs.Ytbfgfeggiicmbaa.tileTurnsP
open Go.ChangeShapes Go.WideShapes Go.ChangeAt Go.RowKit

def ovC (s Q r : Nat) : Nat → Nat
  | 0 => 0
  | c + 1 => ovC s Q r c + bitN Q (r * s + c) * 2 ^ (c * s + r)
def ovR (s Q : Nat) : Nat → Nat
  | 0 => 0
  | r + 1 => ovR s Q r + ovC s Q r s
theorem ovC_le {s Q r : Nat} (hs : s ≤ 3) (hr : r < s) : ∀ c, c ≤ s → ovC s Q r c ≤ c * 256
  | 0, _ => by simp [ovC]
  | c + 1, hc => by
    have h1 := ovC_le (Q := Q) hs hr c (by omega)
    have h2 : c * s + r ≤ 8 := by
      rcases (show s = 0 ∨ s = 1 ∨ s = 2 ∨ s = 3 by omega) with rfl | rfl | rfl | rfl <;> omega
    have h3 : 2 ^ (c * s + r) ≤ 2 ^ 8 := Nat.pow_le_pow_right (by decide) h2
    have h4 := Nat.mul_le_mul (bitN_le Q (r * s + c)) h3
    rw [ovC]
    omega
theorem ovR_le {s Q : Nat} (hs : s ≤ 3) : ∀ r, r ≤ s → ovR s Q r ≤ r * 768
  | 0, _ => by simp [ovR]
  | r + 1, hr => by
    have h1 := ovR_le (Q := Q) hs r (by omega)
    have h2 := ovC_le (Q := Q) hs (show r < s by omega) s (Nat.le_refl _)
    rw [ovR]
    omega
set_option maxRecDepth 100000 in
theorem ov_all : ∀ s : Nat, s < 4 → ∀ Q : Nat, Q < 2 ^ (s * s) → ovR s Q s < 2 ^ (s * s) ∧ ∀ r : Nat, r < s → ∀ c : Nat, c < s → bitN (ovR s Q s) (c * s + r) = bitN Q (r * s + c) := by decide +kernel
theorem ov_add {o b Y : Nat} (ho : o ≤ 10000) (hb : b ≤ 1) (hY : Y ≤ 8) : wrap64 ((o : Int) + wrap64 ((b : Int) * 2 ^ Y)) = ((o + b * 2 ^ Y : Nat) : Int) := by
  have h3 : 2 ^ Y ≤ 2 ^ 8 := Nat.pow_le_pow_right (by decide) hY
  have h4 := Nat.mul_le_mul hb h3
  have e : (b : Int) * 2 ^ Y = ((b * 2 ^ Y : Nat) : Int) := by simp
  rw [e]
  generalize b * 2 ^ Y = z at *
  unfold wrap64
  omega
def OvO (s Q : Nat) (wa : World) (o i : Value) (wr : World) : Prop := ∃ r : Nat, r ≤ s ∧ i = .int .i64 (r : Int) ∧ o = .int .i64 (ovR s Q r : Nat) ∧ wr = wa
def OvI (s Q r : Nat) (wa : World) (o i : Value) (wr : World) : Prop := ∃ c : Nat, c ≤ s ∧ i = .int .i64 (c : Int) ∧ o = .int .i64 (ovR s Q r + ovC s Q r c : Nat) ∧ wr = wa

set_option maxRecDepth 100000 in
set_option maxHeartbeats 3200000 in
theorem tileTurns_walk (t eq top left : Int) (w : World) (ht : (Lit.int .u8 t).wf = true) (he : (Lit.int .u16 eq).wf = true) (hp : (Lit.int .u16 top).wf = true) (hl : (Lit.int .u16 left).wf = true) :
    Calls Try.prog 6 #[.int .u8 t, .int .u16 eq, .int .u16 top, .int .u16 left] w (Yes w) := by
  have Bt := bounds_u8 ht
  have Be := bounds_u16 he
  have Bp := bounds_u16 hp
  have Bl := bounds_u16 hl
  obtain ⟨E, rfl⟩ := Int.eq_ofNat_of_zero_le Be.1
  obtain ⟨P, rfl⟩ := Int.eq_ofNat_of_zero_le Bp.1
  obtain ⟨L, rfl⟩ := Int.eq_ofNat_of_zero_le Bl.1
  clear ht he hp hl
  obtain ⟨k, hk, hkt⟩ : ∃ k : Nat, k < 3 ∧ t.tmod 3 = (k : Int) := ⟨(t % 3).toNat, by omega, by rw [Int.tmod_eq_emod_of_nonneg Bt.1]; omega⟩
  obtain ⟨s, hs⟩ : ∃ s, 1 + k = s := ⟨_, rfl⟩
  have es : (1 : Int) + (k : Int) = (s : Int) := by omega
  have hS : 1 ≤ s ∧ s ≤ 3 := by omega
  obtain ⟨X, hX⟩ : ∃ X, s * s = X := ⟨_, rfl⟩
  have eX : (s : Int) * (s : Int) = (X : Int) := by rw [← hX]; simp
  have hX9 : X ≤ 9 := by rw [← hX]; exact sq_side hS.2
  have hX1 : 1 ≤ X := by rw [← hX]; exact Nat.mul_le_mul hS.1 hS.1
  obtain ⟨M, hM⟩ : ∃ M : Nat, 2 ^ X = M := ⟨_, rfl⟩
  obtain ⟨N, hN⟩ : ∃ N : Nat, 2 ^ s = N := ⟨_, rfl⟩
  have hM1 : 1 ≤ M := by rw [← hM]; exact Nat.two_pow_pos X
  have hN1 : 1 ≤ N := by rw [← hN]; exact Nat.two_pow_pos s
  have hM2 : M ≤ 512 := by rw [← hM]; exact Nat.pow_le_pow_right (n := 2) (by decide) hX9
  have hN2 : N ≤ 8 := by rw [← hN]; exact Nat.pow_le_pow_right (n := 2) (by decide) hS.2
  have pM : (2 : Int) ^ X = (M : Int) := by rw [← hM]; simp
  have pN : (2 : Int) ^ s = (N : Int) := by rw [← hN]; simp
  have wM : IntKind.i64.wrap (M : Int) = (M : Int) := IntWalk.i64_in _ (by omega)
  have wN : IntKind.i64.wrap (N : Int) = (N : Int) := IntWalk.i64_in _ (by omega)
  have wE : IntKind.i64.wrap (E : Int) = (E : Int) := IntWalk.i64_in _ (by omega)
  have wP : IntKind.i64.wrap (P : Int) = (P : Int) := IntWalk.i64_in _ (by omega)
  have wL : IntKind.i64.wrap (L : Int) = (L : Int) := IntWalk.i64_in _ (by omega)
  have wt : IntKind.i64.wrap t = t := IntWalk.i64_in _ (by omega)
  have wX : IntKind.i64.wrap (X : Int) = (X : Int) := IntWalk.i64_in _ (by omega)
  have zM : ((M : Int) == 0) = false := by simp; omega
  have zN : ((N : Int) == 0) = false := by simp; omega
  have zM2 : (M : Int) ≠ 0 := by omega
  have zN2 : (N : Int) ≠ 0 := by omega
  obtain ⟨q, hq⟩ : ∃ q, E % M = q := ⟨_, rfl⟩
  obtain ⟨p, hp⟩ : ∃ p, P % N = p := ⟨_, rfl⟩
  obtain ⟨l, hl⟩ : ∃ l, L % N = l := ⟨_, rfl⟩
  have tq : (E : Int).tmod (M : Int) = (q : Int) := by rw [Int.tmod_eq_emod_of_nonneg (by omega), ← hq]; simp
  have tp : (P : Int).tmod (N : Int) = (p : Int) := by rw [Int.tmod_eq_emod_of_nonneg (by omega), ← hp]; simp
  have tl : (L : Int).tmod (N : Int) = (l : Int) := by rw [Int.tmod_eq_emod_of_nonneg (by omega), ← hl]; simp
  have lq : q < 2 ^ X := by rw [hM, ← hq]; exact Nat.mod_lt _ hM1
  have lp : p < 2 ^ s := by rw [hN, ← hp]; exact Nat.mod_lt _ hN1
  have ll : l < 2 ^ s := by rw [hN, ← hl]; exact Nat.mod_lt _ hN1
  have LQ := Lib.hid lq
  have LP := Lib.hid lp
  have LL := Lib.hid ll
  have HX := Lib.hid hX
  have HM := Lib.hid hM
  have HN := Lib.hid hN
  rw [hM] at lq
  rw [hN] at lp ll
  clear hq hp hl hX hM hN hs
  go_enter Try.func6, Try.ntmps6
  go_wp2_with fail
  refine (of_ok s w hS).mono ?_
  rintro e w1 ⟨b, rfl, hO, h0, bb⟩
  have hT : Til s b w1 := .inl ⟨_, hO⟩
  clear hO
  go_wp2_with fail
  refine (awake13 _).mono ?_
  rintro e w2 ⟨rfl, hb⟩
  replace hT := hT.below hb
  replace bb := below_go bb hb
  clear hb
  go_wp2_with fail
  go_quiet (fail)
  replace hT := hT.drewN nq
  replace bb := below_drewN bb nq
  generalize w2.drewN nq = wa at *
  clear wM wN wE wP wL wt wX zM zN zM2 zN2 tq tp tl pM pN eX hkt es
  go_wp2_with fail
  go_loopw [14, 15] (fun o i wr => OvO s q wa o i wr) (fun _ i _ => s - (intOf i).toNat)
  case atStart => exact ⟨0, Nat.zero_le _, rfl, rfl, rfl⟩
  case round =>
    obtain ⟨r, hr, rfl, rfl, rfl⟩ := hrel
    by_cases hrs : r < s
    · go_wp2_with fail
      go_loopw [14, 16] (fun o i wx => OvI s q r wr o i wx) (fun _ i _ => s - (intOf i).toNat)
      case atStart => exact ⟨0, Nat.zero_le _, rfl, rfl, rfl⟩
      case round =>
        obtain ⟨c, hc, rfl, rfl, rfl⟩ := hrel
        by_cases hcs : c < s
        · obtain ⟨X1, hX1'⟩ : ∃ X1, r * s = X1 := ⟨_, rfl⟩
          obtain ⟨X2, hX2'⟩ : ∃ X2, c * s = X2 := ⟨_, rfl⟩
          have e1 : (r : Int) * (s : Int) = (X1 : Int) := by rw [← hX1']; simp
          have e2 : (c : Int) * (s : Int) = (X2 : Int) := by rw [← hX2']; simp
          have m1 : X1 ≤ 6 := by rw [← hX1']; exact Nat.mul_le_mul (show r ≤ 2 by omega) hS.2
          have m2 : X2 ≤ 6 := by rw [← hX2']; exact Nat.mul_le_mul (show c ≤ 2 by omega) hS.2
          have a1 := and_bitN q (X1 + c)
          have b1 := bitN_le q (X1 + c)
          have l1 := ovR_le (Q := q) hS.2 r hr
          have l2 := ovC_le (Q := q) hS.2 hrs c hc
          have HE : Hid (ovC s q r (c + 1) = ovC s q r c + bitN q (X1 + c) * 2 ^ (X2 + r)) := by show _ = _; rw [ovC, hX1', hX2']
          have HA := Lib.hid (ov_add (o := ovR s q r + ovC s q r c) (b := bitN q (X1 + c)) (Y := X2 + r) (by omega) b1 (by omega))
          have HB : Hid (ovR s q r + ovC s q r (c + 1) = ovR s q r + ovC s q r c + bitN q (X1 + c) * 2 ^ (X2 + r)) := by show _ = _; rw [HE.out, Nat.add_assoc]
          generalize bitN q (X1 + c) = bq at *
          generalize ovR s q r + ovC s q r c = ov at *
          clear hX1' hX2' HE l1 l2
          go_wp2_with fail
          go_roundw
          case rel => exact ⟨c + 1, hcs, by go_num, by rw [HB.out]; exact congrArg (Value.int .i64) HA.out, rfl⟩
          case measure => simp [intOf]; omega
        · obtain rfl : c = s := by omega
          go_wp2_with fail
          go_roundw
          case rel => exact ⟨r + 1, hrs, by go_num, rfl, rfl⟩
          case measure => simp [intOf]; omega
    · obtain rfl : r = s := by omega
      obtain ⟨hov, hbit⟩ := ov_all r (by omega) q (by rw [HX.out]; exact LQ.out)
      have HV := Lib.hid (lookV_yes (inSq_of (t := r) (e := q) (p := p) (l := l) (by rw [HX.out]; exact LQ.out) LP.out LL.out))
      have HW := Lib.hid (lookV_yes (inSq_of (t := r) (e := ovR r q r) (p := l) (l := p) hov LL.out LP.out))
      obtain ⟨g1, g2⟩ := look_turn (t := r) (eq := q) (over := ovR r q r) (top := p) (left := l) (fun a c ha hc => hbit a ha c hc)
      rw [← g1, ← g2] at HW
      clear g1 g2 hov hbit
      generalize ovR r q r = ov at *
      generalize botN r q p l = B at *
      generalize rgtN r q p l = R at *
      go_wp2_with fail
      refine (look_w r b q p l _ w wr hS hT bb h0 HV.out).mono ?_
      rintro e w3 ⟨rfl, hT, bb, _⟩
      clear HV
      go_wp2_with fail
      refine (look_w r b ov l p _ w w3 hS hT bb h0 HW.out).mono ?_
      rintro e w4 ⟨rfl, hT, bb, _⟩
      clear HW
      go_wp2_with fail
      go_ret
      exact Yes.of bb

/-! ### The row's step -/
theorem own : ownKnob Try.prog.godebug = none := by kernel_rfl
theorem laidOut : laidOutB Try.prog = true := by kernel_rfl

theorem contract (H : Type) (enc : TypeId × Value → H) (W : World) (base : Nat) (args : Array Value) (ds gs : List (DataW H)) (before : List MemPlace)
    (hval : ∀ (j : Nat) t v, Try.f6.params[j]? = some t → args[j]? = some v → Value.okWide Try.prog W .any base t v)
    (hW : DataW.Whole enc Try.prog Try.f6.params.toList Rows.tileTurnsSpec.vars false W args.toList ds gs before) :
    Calls Try.prog 6 args W fun e W' => ∃ v, e = .returned v ∧ Rows.tileTurnsSpec.post enc Try.prog Try.f6 false true false false W args v W' := by
  have hW' := hW
  obtain ⟨p, q, hA0, hV, rfl, hfz, hnd⟩ := hW
  have hA : DataW.TrodAll enc Try.prog W 0 (fun _ => true) true Try.f6.params.toList args.toList ds p := hA0
  rw [Try.params6] at hA hval
  obtain ⟨v0, vs0, d0, ds0, p0, q0, hargs, rfl, rfl, h0, r0⟩ := trodAll_cons hA
  obtain ⟨v1, vs1, d1, ds1, p1, q1, rfl, rfl, rfl, h1, r1⟩ := trodAll_cons r0
  obtain ⟨v2, vs2, d2, ds2, p2, q2, rfl, rfl, rfl, h2, r2⟩ := trodAll_cons r1
  obtain ⟨v3, vs3, d3, ds3, p3, q3, rfl, rfl, rfl, h3, r3⟩ := trodAll_cons r2
  obtain ⟨rfl, rfl, rfl⟩ := trodAll_nil r3
  obtain rfl : args = #[v0, v1, v2, v3] := by cases args; simp_all
  obtain ⟨rfl, rfl⟩ := trodVars_none hV
  have k0 := h0
  have lt0 : ∀ x ∈ p0, x.block < W.heap.size := by obtain ⟨m, hm⟩ := k0; exact DataW.trod_lt m _ _ _ hm
  obtain ⟨a0, e0, _, _, w0⟩ := open_int Try.underlying5 (hval 0 5 v0 rfl rfl) h0
  subst e0
  have k1 := h1
  have lt1 : ∀ x ∈ p1, x.block < W.heap.size := by obtain ⟨m, hm⟩ := k1; exact DataW.trod_lt m _ _ _ hm
  obtain ⟨a1, e1, _, _, w1⟩ := open_int Try.underlying34 (hval 1 34 v1 rfl rfl) h1
  subst e1
  have k2 := h2
  have lt2 : ∀ x ∈ p2, x.block < W.heap.size := by obtain ⟨m, hm⟩ := k2; exact DataW.trod_lt m _ _ _ hm
  obtain ⟨a2, e2, _, _, w2⟩ := open_int Try.underlying34 (hval 2 34 v2 rfl rfl) h2
  subst e2
  have k3 := h3
  have lt3 : ∀ x ∈ p3, x.block < W.heap.size := by obtain ⟨m, hm⟩ := k3; exact DataW.trod_lt m _ _ _ hm
  obtain ⟨a3, e3, _, _, w3⟩ := open_int Try.underlying34 (hval 3 34 v3 rfl rfl) h3
  subst e3
  clear hA0
  refine (tileTurns_walk a0 a1 a2 a3 W w0 w1 w2 w3).mono fun e W' ⟨he, bel⟩ => ?_
  subst he
  exact ⟨_, rfl, _, _, _, [], _, [], hW', trodAll_mk1 (shut_bool Try.underlying4 _), (trodAll_cons_mk (Below.trod laidOut (by kernel_rfl) (of_decide_eq_true (by kernel_rfl)) k0 bel lt0) (trodAll_cons_mk (Below.trod laidOut (by kernel_rfl) (of_decide_eq_true (by kernel_rfl)) k1 bel lt1) (trodAll_cons_mk (Below.trod laidOut (by kernel_rfl) (of_decide_eq_true (by kernel_rfl)) k2 bel lt2) (trodAll_cons_mk (Below.trod laidOut (by kernel_rfl) (of_decide_eq_true (by kernel_rfl)) k3 bel lt3) trodAll_mk0)))), rfl, bel.frame _, fun h => by cases h⟩

set_option maxRecDepth 100000 in
theorem lifted (os : Os) (started : os.Started) (H : Type) (enc : TypeId × Value → H) :
    ReturnsInHanded {} Try.checked os 6 .any (Rows.tileTurnsSpec.pre6 enc Try.prog Try.f6 Rows.tileTurnsRow.domain false) (Rows.tileTurnsSpec.post enc Try.prog Try.f6 false true false false) := by
  refine returnsInHanded_of_change (C := Try.checked) own started (by kernel_rfl) Try.func6
    (ChangeSpec.witness6 (enc := enc) (C := Try.checked) false ⟨#[], #[.int .u8 0, .int .u16 0, .int .u16 0, .int .u16 0], []⟩ 8 (by kernel_rfl) (by kernel_rfl) (by kernel_rfl) (by kernel_rfl)) ?_
  intro W base args ds gs before hval hW _ _
  exact contract H enc W base args ds gs before hval hW

/-- The statement. -/
theorem proved : Rows.TileTurnsSaid :=
  OpenClaim.holds_of_wide 6 Try.f6 rfl rfl rfl rfl rfl rfl rfl ⟨rfl, rfl, rfl, rfl, rfl⟩ rfl rfl rfl rfl rfl (by kernel_rfl) Try.func6 (by kernel_rfl)
    (of_decide_eq_true (by kernel_rfl)) (by unfold Func.isWrapper; first | (rw [if_pos (by decide +kernel)]; kernel_rfl) | (rw [if_neg (by decide +kernel)]; exact ⟨rfl, rfl⟩))
    (fun os started H enc _ => lifted os started H enc)

end Go.Proofs.Ytbfgfeggiicmbaa.tileTurnsP
