/-
  Proved: for every input tattinglaw3.TrimEnds returns true, and its arguments read afterwards as before.
-/
import Derived.Test.YtambidlenfnbiaaAwake3
import Derived.Test.YtambidlenfnbiaaArgsI
import Derived.Deep.DeepCutAuto
namespace Go.Proofs.Ytambidlenfnbiaa.trimEndsP
open Go.ChangeShapes Go.WideShapes Go.ChangeAt Go.RowKit
open Go.ChangeMaps (open_string shut_string)

/-- The test of the sizes. -/
def SizesRel (n m nf nk : Nat) (v : Value) : Prop := v = .bool true ∨ (v = .bool false ∧ n ≤ 20 ∧ m ≤ 20 ∧ nf ≤ 20 ∧ nk ≤ 20)

/-- The sizes' test, as the walk leaves it. -/
theorem sizes_in {n m nf nk : Nat} {b : Bool} (h : n ≤ 20 ∧ m ≤ 20 ∧ nf ≤ 20 ∧ nk ≤ 20) : SizesRel n m nf nk (.bool b) := by
  cases b
  · exact .inr ⟨rfl, h⟩
  · exact .inl rfl
theorem sizes_out {n m nf nk : Nat} {b : Bool} (h : b = true) : SizesRel n m nf nk (.bool b) := by
  subst h
  exact .inl rfl

/-- What is between both ends, of two lists with the same put around. -/
def Between (nx ny nf nk : Nat) (p s : Nat) (u v : List Int) : Prop :=
  nf ≤ p ∧ nf + nk ≤ p + s ∧ p + s ≤ nx ∧ p + s ≤ ny ∧ u.length = nx - p - s ∧ v.length = ny - p - s ∧ (∀ h1 h2, u[0]'h1 ≠ v[0]'h2) ∧ (∀ i j (hi : u.length = i + 1) (hj : v.length = j + 1), u[i]'(by omega) ≠ v[j]'(by omega))
theorem between (f a b k : List Int) (nx ny : Nat) (hx : (f ++ a ++ k).length = nx) (hy : (f ++ b ++ k).length = ny) :
    Between nx ny f.length k.length (pe (f ++ a ++ k) (f ++ b ++ k)) (se (f ++ a ++ k) (f ++ b ++ k)) (mid (f ++ a ++ k) (pe (f ++ a ++ k) (f ++ b ++ k)) (se (f ++ a ++ k) (f ++ b ++ k))) (mid (f ++ b ++ k) (pe (f ++ a ++ k) (f ++ b ++ k)) (se (f ++ a ++ k) (f ++ b ++ k))) := by
  subst hx
  subst hy
  exact ⟨ends_front f a b k, ends_back f a b k, ends_left _ _, ends_right _ _, mid_length _ _ _ (ends_left _ _), mid_length _ _ _ (ends_right _ _), fun h1 h2 => mid_first _ _ h1 h2, fun i j hi hj => mid_last _ _ i j hi hj⟩

set_option maxRecDepth 100000 in
set_option maxHeartbeats 3200000 in
theorem trimEnds_walk (A : Option Addr) (n c : Nat) (a : List Int) (B : Option Addr) (m d : Nat) (b : List Int) (F : Option Addr) (nf cf : Nat) (f : List Int) (K : Option Addr) (nk ck : Nat) (k : List Int) (w : World) (ha : ArgI w A n c a) (hb : ArgI w B m d b) (hf : ArgI w F nf cf f) (hk : ArgI w K nk ck k) :
    Calls Try.prog 5 #[.slice A n c, .slice B m d, .slice F nf cf, .slice K nk ck] w (Yes w) := by
  obtain ⟨hna, hca, hcma, rA, nA, _⟩ := ha
  obtain ⟨hnb, hcb, hcmb, rB, nB, _⟩ := hb
  obtain ⟨hnf, hcf, hcmf, rF, nF, _⟩ := hf
  obtain ⟨hnk, hck, hcmk, rK, nK, _⟩ := hk
  have HA := Lib.hid hna
  have HB := Lib.hid hnb
  have HF := Lib.hid hnf
  have HK := Lib.hid hnk
  clear hna hnb hnf hnk
  unfold maxLen at hcma hcmb hcmf hcmk
  obtain ⟨i0, hi, hz0, hz1, hz2⟩ := info_parts Try.infoInt
  go_enter Try.func5, Try.ntmps5
  go_wp2_with fail
  refine (awake_yes _).mono ?_
  rintro e w1 ⟨rfl, hb1⟩
  have rA1 := rA.below hb1
  have rB1 := rB.below hb1
  have rF1 := rF.below hb1
  have rK1 := rK.below hb1
  clear rA rB rF rK
  go_upto_region 3 with (fail)
  go_cut [34] (fun v wx => SizesRel n m nf nk v ∧ wx = w1)
  case first =>
    by_cases c1 : n ≤ 20 ∧ m ≤ 20 ∧ nf ≤ 20 ∧ nk ≤ 20
    · obtain ⟨c1, c2, c3, c4⟩ := c1
      go_wp2_with fail
      all_goals (go_meet; exact ⟨sizes_in (by omega), rfl⟩)
    · go_wp2_with fail
      all_goals (go_meet; first | exact ⟨.inl rfl, rfl⟩ | exact ⟨sizes_out (by simp; omega), rfl⟩)
  case rest =>
    obtain ⟨rfl | ⟨rfl, c1, c2, c3, c4⟩, rfl⟩ := hcut
    · go_wp2_with fail
      go_ret
      exact Yes.of hb1
    · have hL : (f ++ a ++ k).length = nf + n + nk := by rw [List.length_append, List.length_append, HA.out, HF.out, HK.out]
      have hM : (f ++ b ++ k).length = nf + m + nk := by rw [List.length_append, List.length_append, HB.out, HF.out, HK.out]
      have HW := Lib.hid (between f a b k _ _ hL hM)
      rw [HF.out, HK.out] at HW
      have HX := Lib.hid hL
      have HY := Lib.hid hM
      clear hL hM
      go_wp2_with (at_builtin; refine append_row rfl (.tmp 35) (.tmp 36) 24 rfl wc.heap.size 3 i0 (.int .i64 0) 8 Try.underlying24 hi hz0 hz1 hz2 rfl _ 0 [] rfl (own_empty wc 3) _ _ _ (iv f) rfl (by rw [iv_length]; exact HF.out) (rF1.alloc _) nF (iv_one f) (by unfold maxLen; omega) (by omega) (by simp) ?_)
      intro x2 w2 o2 g2
      have b2 : Below wc.heap.size wc w2 := ((Below.refl _ wc).alloc (Nat.le_refl _) _).grown g2 (by simp) (fun x hx => by cases hx; simp)
      have s2 := b2.size
      go_wp2_with (at_builtin; refine append_row rfl (.tmp 37) (.tmp 38) 24 rfl wc.heap.size 3 i0 (.int .i64 0) 8 Try.underlying24 hi hz0 hz1 hz2 rfl _ _ _ rfl o2 _ _ _ (iv a) rfl (by rw [iv_length]; exact HA.out) (rA1.below b2) nA (iv_one a) (by unfold maxLen; omega) (by omega) s2 ?_)
      intro x3 w3 o3 g3
      have b3 : Below wc.heap.size wc w3 := b2.grown g3 s2 (fun x hx => (o2.lt x hx).1)
      have s3 := b3.size
      clear o2 g2 b2 s2 g3
      go_wp2_with (at_builtin; refine append_row rfl (.tmp 39) (.tmp 40) 24 rfl wc.heap.size 3 i0 (.int .i64 0) 8 Try.underlying24 hi hz0 hz1 hz2 rfl _ _ _ rfl o3 _ _ _ (iv k) rfl (by rw [iv_length]; exact HK.out) (rK1.below b3) nK (iv_one k) (by unfold maxLen; omega) (by omega) s3 ?_)
      intro x4 w4 o4 g4
      have b4 : Below wc.heap.size wc w4 := b3.grown g4 s3 (fun x hx => (o3.lt x hx).1)
      have s4 := b4.size
      have q4 : w4.ownsRow wc.heap.size 3 1 x4 (nf + n + nk) (iv (f ++ a ++ k)) := by
        rw [iv_append, iv_append]
        have h := o4
        try simp only [List.nil_append, Nat.zero_add] at h
        first | exact h | (rw [List.append_assoc]; exact h)
      clear o3 g4 b3 s3 o4
      have hb4 := hb1.trans (b4.mono hb1.size)
      have rB4 := rB1.below b4
      have rF4 := rF1.below b4
      have rK4 := rK1.below b4
      clear rA1 rB1 rF1 rK1 hb1 b4
      go_wp2_with (at_builtin; refine append_row rfl (.tmp 42) (.tmp 43) 24 rfl w4.heap.size 3 i0 (.int .i64 0) 8 Try.underlying24 hi hz0 hz1 hz2 rfl _ 0 [] rfl (own_empty w4 3) _ _ _ (iv f) rfl (by rw [iv_length]; exact HF.out) (rF4.alloc _) nF (iv_one f) (by unfold maxLen; omega) (by omega) (by simp) ?_)
      intro x5 w5 o5 g5
      have b5 : Below w4.heap.size w4 w5 := ((Below.refl _ w4).alloc (Nat.le_refl _) _).grown g5 (by simp) (fun x hx => by cases hx; simp)
      have s5 := b5.size
      go_wp2_with (at_builtin; refine append_row rfl (.tmp 44) (.tmp 45) 24 rfl w4.heap.size 3 i0 (.int .i64 0) 8 Try.underlying24 hi hz0 hz1 hz2 rfl _ _ _ rfl o5 _ _ _ (iv b) rfl (by rw [iv_length]; exact HB.out) (rB4.below b5) nB (iv_one b) (by unfold maxLen; omega) (by omega) s5 ?_)
      intro x6 w6 o6 g6
      have b6 : Below w4.heap.size w4 w6 := b5.grown g6 s5 (fun x hx => (o5.lt x hx).1)
      have s6 := b6.size
      clear o5 g5 b5 s5 g6
      go_wp2_with (at_builtin; refine append_row rfl (.tmp 46) (.tmp 47) 24 rfl w4.heap.size 3 i0 (.int .i64 0) 8 Try.underlying24 hi hz0 hz1 hz2 rfl _ _ _ rfl o6 _ _ _ (iv k) rfl (by rw [iv_length]; exact HK.out) (rK4.below b6) nK (iv_one k) (by unfold maxLen; omega) (by omega) s6 ?_)
      intro x7 w7 o7 g7
      have b7 : Below w4.heap.size w4 w7 := b6.grown g7 s6 (fun x hx => (o6.lt x hx).1)
      have s7 := b7.size
      have q7 : w7.ownsRow w4.heap.size 3 1 x7 (nf + m + nk) (iv (f ++ b ++ k)) := by
        rw [iv_append, iv_append]
        have h := o7
        try simp only [List.nil_append, Nat.zero_add] at h
        first | exact h | (rw [List.append_assoc]; exact h)
      clear o6 g7 b6 s6 o7
      obtain ⟨X, cX, rfl, xc, _, rX, _⟩ := own_slice (own_below q4 b7 (Nat.le_refl _))
      obtain ⟨Y, cY, rfl, yc, _, rY, _⟩ := own_slice q7
      have hb7 := hb4.trans (b7.mono hb4.size)
      clear q4 q7 rB4 rF4 rK4 hb4 b7
      generalize f ++ a ++ k = xs at *
      generalize f ++ b ++ k = ys at *
      go_wp2_with fail
      refine (of_any X Y _ _ cX cY xs ys w7 HX.out HY.out (by omega) (by omega) xc yc rX rY).mono ?_
      rintro e w8 ⟨rfl, q, hq⟩
      have hb8 := below_drawn hq hb7
      have rX8 := Row.drawn hq rX
      have rY8 := Row.drawn hq rY
      clear hq rX rY hb7
      go_wp2_with fail
      refine (mid_any X Y _ _ cX cY xs ys w8 HX.out HY.out (by omega) (by omega) xc yc rX8 rY8).mono ?_
      rintro e w9 ⟨u, v, rfl, ou, ov, b9⟩
      have hb9 := hb8.trans (b9.mono hb8.size)
      clear b9 hb8 rX8 rY8 xc yc
      generalize mid xs (pe xs ys) (se xs ys) = us at *
      generalize mid ys (pe xs ys) (se xs ys) = vs at *
      generalize pe xs ys = p at *
      generalize se xs ys = s at *
      obtain ⟨U, cU, rfl, uc, um, rU, _⟩ := own_slice ou
      obtain ⟨V, cV, rfl, vc, vm, rV, _⟩ := own_slice ov
      obtain ⟨e1, e2, e3, e4, e5, e6, e7, e8⟩ := HW.out
      have z1 : decide ((p : Int) < (nf : Int)) = false := by simp; omega
      have z2 : decide (p < nf) = false := by simp; omega
      have z3 : decide ((p : Int) + (s : Int) < (nf : Int) + (nk : Int)) = false := by simp; omega
      have z4 : decide (p + s < nf + nk) = false := by simp; omega
      have E7 := Lib.hid e7
      have E8 := Lib.hid e8
      have l1 : us.length ≤ 60 := by omega
      have l2 : vs.length ≤ 60 := by omega
      have y1 : ((us.length : Int) != (nf : Int) + (n : Int) + (nk : Int) - (p : Int) - (s : Int)) = false := by simp; omega
      have y2 : ((vs.length : Int) != (nf : Int) + (m : Int) + (nk : Int) - (p : Int) - (s : Int)) = false := by simp; omega
      clear e7 e8 ou ov HW e5 e6
      go_wp2_with fail
      clear z1 z2 z3 z4 y1 y2 e1 e2 e3 e4
      by_cases h0 : us.length = 0
      · have k1 : ((us.length : Int) == 0) = true := by simp [h0]
        clear E7 E8
        go_quiet (fail)
        go_wp2_with fail
        go_ret
        exact Yes.of (below_drewN hb9 _)
      · by_cases h1 : vs.length = 0
        · have k1 : ((us.length : Int) == 0) = false := by simp [h0]
          have k2 : ((vs.length : Int) == 0) = true := by simp [h1]
          have k3 : (us.length == 0) = false := by simp [h0]
          have k5 : decide (us.length = 0) = false := by simp [h0]
          have k6 : decide ((us.length : Int) = 0) = false := by simp [h0]
          have k7 : (us.length : Int) ≠ 0 := by omega
          clear E7 E8 rU rV
          generalize us.length = ul at *
          generalize vs.length = vl at *
          go_quiet (fail)
          go_wp2_with fail
          go_ret
          exact Yes.of (below_drewN hb9 _)
        · obtain ⟨g, o, rfl, c0⟩ := rU.int (k := 0) (by omega)
          obtain ⟨g', o', rfl, d0⟩ := rV.int (k := 0) (by omega)
          obtain ⟨_, _, eU, cL⟩ := rU.int (k := us.length - 1) (by omega)
          cases eU
          obtain ⟨_, _, eV, dL⟩ := rV.int (k := vs.length - 1) (by omega)
          cases eV
          have t1 : (us[0] != vs[0]) = true := by simpa using E7.out (by omega) (by omega)
          have t2 : (us[us.length - 1] != vs[vs.length - 1]) = true := by simpa using E8.out (us.length - 1) (vs.length - 1) (by omega) (by omega)
          have c0' : w9.cell? ⟨g, o, none⟩ = some (.int .i64 us[0]) := c0
          have d0' : w9.cell? ⟨g', o', none⟩ = some (.int .i64 vs[0]) := d0
          clear c0 d0 E7 E8 rU rV
          generalize us[0] = a1 at *
          generalize vs[0] = a2 at *
          generalize us[us.length - 1] = a3 at *
          generalize vs[vs.length - 1] = a4 at *
          have i1 : (us.length : Int) - 1 = (us.length - 1 : Nat) := by omega
          have i2 : (vs.length : Int) - 1 = (vs.length - 1 : Nat) := by omega
          have j1 : us.length - 1 < us.length := by omega
          have j2 : vs.length - 1 < vs.length := by omega
          have j3 : 0 < us.length := by omega
          have j4 : 0 < vs.length := by omega
          have k1 : ((us.length : Int) == 0) = false := by simp [h0]
          have k2 : ((vs.length : Int) == 0) = false := by simp [h1]
          have k3 : (us.length == 0) = false := by simp [h0]
          have k4 : (vs.length == 0) = false := by simp [h1]
          have k5 : decide (us.length = 0) = false := by simp [h0]
          have k6 : decide ((us.length : Int) = 0) = false := by simp [h0]
          have k7 : (us.length : Int) ≠ 0 := by omega
          have k8 : decide (vs.length = 0) = false := by simp [h1]
          have k9 : decide ((vs.length : Int) = 0) = false := by simp [h1]
          have k10 : (vs.length : Int) ≠ 0 := by omega
          generalize us.length - 1 = u1 at *
          generalize vs.length - 1 = v1 at *
          generalize us.length = ul at *
          generalize vs.length = vl at *
          go_quiet (fail)
          go_wp2_with fail
          go_ret
          exact Yes.of (below_drewN hb9 _)

/-! ### The row's step -/
theorem own : ownKnob Try.prog.godebug = none := by kernel_rfl
theorem laidOut : laidOutB Try.prog = true := by kernel_rfl

theorem contract (H : Type) (enc : TypeId × Value → H) (W : World) (base : Nat) (args : Array Value) (ds gs : List (DataW H)) (before : List MemPlace)
    (hval : ∀ (j : Nat) t v, Try.f5.params[j]? = some t → args[j]? = some v → Value.okWide Try.prog W .any base t v)
    (hW : DataW.Whole enc Try.prog Try.f5.params.toList Rows.trimEndsSpec.vars false W args.toList ds gs before) :
    Calls Try.prog 5 args W fun e W' => ∃ v, e = .returned v ∧ Rows.trimEndsSpec.post enc Try.prog Try.f5 false true false false W args v W' := by
  have hW' := hW
  obtain ⟨p, q, hA0, hV, rfl, hfz, hnd⟩ := hW
  have hA : DataW.TrodAll enc Try.prog W 0 (fun _ => true) true Try.f5.params.toList args.toList ds p := hA0
  rw [Try.params5] at hA hval
  obtain ⟨v0, vs0, d0, ds0, p0, q0, hargs, rfl, rfl, h0, r0⟩ := trodAll_cons hA
  obtain ⟨v1, vs1, d1, ds1, p1, q1, rfl, rfl, rfl, h1, r1⟩ := trodAll_cons r0
  obtain ⟨v2, vs2, d2, ds2, p2, q2, rfl, rfl, rfl, h2, r2⟩ := trodAll_cons r1
  obtain ⟨v3, vs3, d3, ds3, p3, q3, rfl, rfl, rfl, h3, r3⟩ := trodAll_cons r2
  obtain ⟨rfl, rfl, rfl⟩ := trodAll_nil r3
  obtain rfl : args = #[v0, v1, v2, v3] := by cases args; simp_all
  obtain ⟨rfl, rfl⟩ := trodVars_none hV
  have k0 := h0
  have lt0 : ∀ x ∈ p0, x.block < W.heap.size := by obtain ⟨m, hm⟩ := k0; exact DataW.trod_lt m _ _ _ hm
  obtain ⟨A0, n0, c0, e0⟩ := okWide_slice Try.underlying24 (hval 0 24 v0 rfl rfl)
  subst e0
  obtain ⟨l0, w0⟩ := open_argI Try.underlying24 Try.underlying3 (by kernel_rfl) h0
  have k1 := h1
  have lt1 : ∀ x ∈ p1, x.block < W.heap.size := by obtain ⟨m, hm⟩ := k1; exact DataW.trod_lt m _ _ _ hm
  obtain ⟨A1, n1, c1, e1⟩ := okWide_slice Try.underlying24 (hval 1 24 v1 rfl rfl)
  subst e1
  obtain ⟨l1, w1⟩ := open_argI Try.underlying24 Try.underlying3 (by kernel_rfl) h1
  have k2 := h2
  have lt2 : ∀ x ∈ p2, x.block < W.heap.size := by obtain ⟨m, hm⟩ := k2; exact DataW.trod_lt m _ _ _ hm
  obtain ⟨A2, n2, c2, e2⟩ := okWide_slice Try.underlying24 (hval 2 24 v2 rfl rfl)
  subst e2
  obtain ⟨l2, w2⟩ := open_argI Try.underlying24 Try.underlying3 (by kernel_rfl) h2
  have k3 := h3
  have lt3 : ∀ x ∈ p3, x.block < W.heap.size := by obtain ⟨m, hm⟩ := k3; exact DataW.trod_lt m _ _ _ hm
  obtain ⟨A3, n3, c3, e3⟩ := okWide_slice Try.underlying24 (hval 3 24 v3 rfl rfl)
  subst e3
  obtain ⟨l3, w3⟩ := open_argI Try.underlying24 Try.underlying3 (by kernel_rfl) h3
  clear hA0
  refine (trimEnds_walk A0 n0 c0 l0 A1 n1 c1 l1 A2 n2 c2 l2 A3 n3 c3 l3 W w0 w1 w2 w3).mono fun e W' ⟨he, bel⟩ => ?_
  subst he
  exact ⟨_, rfl, _, _, _, [], _, [], hW', trodAll_mk1 (shut_bool Try.underlying4 _), (trodAll_cons_mk (Below.trod laidOut (by kernel_rfl) (of_decide_eq_true (by kernel_rfl)) k0 bel lt0) (trodAll_cons_mk (Below.trod laidOut (by kernel_rfl) (of_decide_eq_true (by kernel_rfl)) k1 bel lt1) (trodAll_cons_mk (Below.trod laidOut (by kernel_rfl) (of_decide_eq_true (by kernel_rfl)) k2 bel lt2) (trodAll_cons_mk (Below.trod laidOut (by kernel_rfl) (of_decide_eq_true (by kernel_rfl)) k3 bel lt3) trodAll_mk0)))), rfl, bel.frame _, fun h => by cases h⟩

set_option maxRecDepth 100000 in
theorem lifted (os : Os) (started : os.Started) (H : Type) (enc : TypeId × Value → H) :
    ReturnsInHanded {} Try.checked os 5 .any (Rows.trimEndsSpec.pre6 enc Try.prog Try.f5 Rows.trimEndsRow.domain false) (Rows.trimEndsSpec.post enc Try.prog Try.f5 false true false false) := by
  refine returnsInHanded_of_change (C := Try.checked) own started (by kernel_rfl) Try.func5
    (ChangeSpec.witness6 (enc := enc) (C := Try.checked) false ⟨#[], #[.slice none 0 0, .slice none 0 0, .slice none 0 0, .slice none 0 0], []⟩ 8 (by kernel_rfl) (by kernel_rfl) (by kernel_rfl) (by kernel_rfl)) ?_
  intro W base args ds gs before hval hW _ _
  exact contract H enc W base args ds gs before hval hW

/-- The statement. -/
theorem proved : Rows.TrimEndsSaid :=
  OpenClaim.holds_of_wide 5 Try.f5 rfl rfl rfl rfl rfl rfl rfl ⟨rfl, rfl, rfl, rfl, rfl⟩ rfl rfl rfl rfl rfl (by kernel_rfl) Try.func5 (by kernel_rfl)
    (of_decide_eq_true (by kernel_rfl)) (by unfold Func.isWrapper; first | (rw [if_pos (by decide +kernel)]; kernel_rfl) | (rw [if_neg (by decide +kernel)]; exact ⟨rfl, rfl⟩))
    (fun os started H enc _ => lifted os started H enc)

end Go.Proofs.Ytambidlenfnbiaa.trimEndsP
