/-
  Proved: for every input tattinglaw18.OnpGoes returns true, and its arguments read afterwards as before.
-/
import Derived.Test.YtgbcdeahiemhoaaM32
import Derived.Test.YtgbcdeahiemhoaaM34
import Derived.BigQuiet
namespace Go.Proofs.Ytgbcdeahiemhoaa.onpGoesP
open Go.ChangeShapes Go.WideShapes Go.ChangeAt Go.RowKit
open Go.ChangeMaps (open_string shut_string)

set_option maxRecDepth 100000 in
set_option maxHeartbeats 3200000 in
theorem onpGoes_walk (Aa : Option Addr) (na ca : Nat) (a : List Int) (Ab : Option Addr) (nb cb : Nat) (b : List Int) (w : World) (ha : ArgI w Aa na ca a) (hb : ArgI w Ab nb cb b) :
    Calls Try.prog 7 #[.slice Aa na ca, .slice Ab nb cb] w (Yes w) := by
  obtain ⟨hna, hca, hma, r_a, hnila, hwfa⟩ := ha
  have Ha := Lib.hid hna
  have Wa := Lib.hid hwfa
  clear hna hwfa
  unfold maxLen at hma
  obtain ⟨hnb, hcb, hmb, r_b, hnilb, hwfb⟩ := hb
  have Hb := Lib.hid hnb
  have Wb := Lib.hid hwfb
  clear hnb hwfb
  unfold maxLen at hmb
  by_cases ga : na ≤ 25
  case neg =>
    go_enter Try.func7, Try.ntmps7
    go_wp2_with fail
    refine (awake18 _).mono ?_
    rintro e w1 ⟨rfl, hb1⟩
    go_wp2_with fail
    go_ret
    exact Yes.of hb1
  by_cases gb : nb ≤ 25
  case neg =>
    go_enter Try.func7, Try.ntmps7
    go_wp2_with fail
    refine (awake18 _).mono ?_
    rintro e w1 ⟨rfl, hb1⟩
    go_wp2_with fail
    go_ret
    exact Yes.of hb1
  go_enter Try.func7, Try.ntmps7
  go_wp2_with fail
  refine (awake18 _).mono ?_
  rintro e w1 ⟨rfl, hb⟩
  have B := below_go (Below.refl _ _) hb
  replace r_a := r_a.below B
  replace r_b := r_b.below B
  have bb := B
  clear B hb
  go_wp2_with fail
  refine (few_any _ na _ a 3 _ Ha.out (by omega) (by decide) (by decide) r_a).mono ?_
  rintro e w2 ⟨v, rfl, hv, hb⟩
  have Hx : Hid ((few 3 a).length = na) := by show _ = _; rw [few_length, Ha.out]
  rw [Hx.out] at hv
  clear r_a
  replace r_b := r_b.below hb
  replace bb := below_go bb hb
  clear hb
  obtain ⟨V_x, c_x, rfl, hq_x, hx_x, r_x, hnil_x⟩ := own_slice hv
  clear hv
  generalize few 3 a = x at *
  go_wp2_with fail
  refine (few_any _ nb _ b 3 _ Hb.out (by omega) (by decide) (by decide) r_b).mono ?_
  rintro e w3 ⟨v, rfl, hv, hb⟩
  have Hy : Hid ((few 3 b).length = nb) := by show _ = _; rw [few_length, Hb.out]
  rw [Hy.out] at hv
  clear r_b
  replace r_x := r_x.below hb
  replace bb := below_go bb hb
  clear hb
  obtain ⟨V_y, c_y, rfl, hq_y, hx_y, r_y, hnil_y⟩ := own_slice hv
  clear hv
  generalize few 3 b = y at *
  obtain ⟨l1, l2, l3, _, l5⟩ := sht_len x y
  have hRl := rgt_le x y
  have hDR := rgt_dist x y
  rw [Hx.out, Hy.out] at l1 l2 l5
  have HMid := Lib.hid (fun (P : Nat) (h : P ≤ (sht x y).length) => farI_mid (a := x) (b := y) h)
  have HLen := Lib.hid (fun (P : Nat) (h : P ≤ (sht x y).length) => farI_len (a := x) (b := y) h)
  have HGr := Lib.hid (fun (P t : Nat) (h : P ≤ (sht x y).length) (h' : t < (wasL x y P).length) => was_grow h h')
  have HWl := Lib.hid (fun (P : Nat) (h : P ≤ (sht x y).length + 1) => was_len h)
  rw [l1] at HMid HLen HGr HWl hRl
  simp only [Hx.out, Hy.out] at HMid
  generalize wdt x y = W at *
  generalize rgt x y = R at *
  obtain ⟨D, hD⟩ : ∃ D, dist x y = D := ⟨_, rfl⟩
  have HD := Lib.hid hD
  have hWm : max na nb - min na nb = W := by omega
  have eD : (D : Int) - (W : Int) = ((2 * R : Nat) : Int) := by omega
  have t1 : ((2 * R : Nat) : Int) / 2 = (R : Int) := by omega
  have t2 : ((2 * R : Nat) : Int).tdiv 2 = (R : Int) := by rw [Int.tdiv_eq_ediv_of_nonneg (by omega)]; exact t1
  have hRb : R ≤ 25 := by omega
  have hWb : W ≤ 25 := by omega
  obtain ⟨E, hE⟩ : ∃ E, 2 * R = E := ⟨_, rfl⟩
  have hEb : E ≤ 50 := by omega
  have hDb : D ≤ 75 := by omega
  rw [hE] at eD t1 t2
  obtain ⟨mx, hmx⟩ : ∃ mx, max na nb = mx := ⟨_, rfl⟩
  have emx : (if (na : Int) < (nb : Int) then (nb : Int) else (na : Int)) = (mx : Int) := by split <;> omega
  have emy : max (na : Int) (nb : Int) = (mx : Int) := by omega
  rw [hmx] at HMid
  have HWm := Lib.hid hWm
  clear l1 l2 l3 l5 hDR hD hWm hE hmx
  go_wp2_with fail
  refine (apart_w na nb W _ (by omega) (by omega) HWm.out).mono ?_
  rintro e w4 ⟨rfl, hb⟩
  have B := below_go (Below.refl _ _) hb
  replace r_x := r_x.below B
  replace r_y := r_y.below B
  replace bb := below_go bb B
  clear B hb
  go_wp2_with fail
  refine (rdist_any _ _ na nb _ _ x y _ Hx.out Hy.out (by omega) (by omega) r_x r_y).mono ?_
  rintro e w5 ⟨rfl, hb⟩
  have B := below_go (Below.refl _ _) hb
  replace r_x := r_x.below B
  replace r_y := r_y.below B
  replace bb := below_go bb B
  clear B hb
  rw [HD.out]
  go_wp2_with fail
  go_loopw [9, 10] (fun v p wr => GoRel x y R w5 v p wr) (fun _ p _ => R + 1 - (intOf p).toNat)
  case atStart => exact ⟨0, Nat.zero_le _, rfl, ⟨none, 0, rfl, Row.nil _ _⟩, Below.refl _ _⟩
  case round =>
    obtain ⟨P, hP, rfl, ⟨A0, c0, rfl, r0⟩, hb0⟩ := hrel
    by_cases hlt : P < R + 1
    · have rx := r_x.below hb0
      have ry := r_y.below hb0
      have hPn : P ≤ min na nb := by omega
      have CF := Lib.hid (ofar_any V_x V_y na nb c_x c_y (P : Int) x y wr Hx.out Hy.out hq_x hq_y (by omega) (by omega) rx ry)
      obtain ⟨f, f1, f2, f3, f4⟩ := HMid.out P hPn
      have hL := HLen.out P hPn
      have hG := Lib.hid (fun t h => HGr.out P t hPn h)
      have hLw := HWl.out P (by omega)
      obtain ⟨Lw, hLw'⟩ : ∃ z, (wasL x y P).length = z := ⟨_, rfl⟩
      have HLw := Lib.hid hLw'
      rw [hLw'] at hLw hG
      rw [hLw']
      obtain ⟨M, hM⟩ : ∃ z, W + 2 * P + 1 = z := ⟨_, rfl⟩
      obtain ⟨Ix, hIx⟩ : ∃ z, W + P = z := ⟨_, rfl⟩
      have eM : (W : Int) + 2 * (P : Int) + 1 = (M : Int) := by omega
      have eI : (W : Int) + (P : Int) = (Ix : Int) := by omega
      have hIM : Ix < M := by omega
      have hMb : M ≤ 76 := by omega
      rw [hM] at hL
      rw [hIx] at f1
      have HL := Lib.hid hL
      have HN : Hid (∀ A c w', Below wr.heap.size wr w' → Row w' A (iv (farI x y (P : Int))) → GoRel x y R w5 (.slice A M c) (.int .i64 ((P + 1 : Nat) : Int)) w') := fun A c w' g1 g2 =>
        ⟨P + 1, hlt, rfl, ⟨A, c, by rw [show wasL x y (P + 1) = farI x y (P : Int) from rfl, HL.out], g2⟩, below_go hb0 g1⟩
      clear hL rx ry hb0 hM hIx hLw'
      generalize wasL x y P = was at *
      generalize farI x y (P : Int) = now at *
      go_wp2_with fail
      refine CF.out.mono ?_
      rintro e w5 ⟨v, rfl, hv, hb5⟩
      rw [HL.out] at hv
      obtain ⟨V, cV, rfl, _, _, rV, _⟩ := own_slice hv
      have r0' := r0.below hb5
      clear hv r0 CF
      have hIx2 : Ix < now.length := by rw [HL.out]; exact hIM
      obtain ⟨g, o, rfl, hc⟩ := rV.int hIx2
      have hfe : now[Ix] = f := by
        have := List.getElem?_eq_getElem hIx2
        rw [this] at f1
        injection f1
      rw [hfe] at hc
      clear hfe f1 f2 f3
      obtain ⟨bq, tb1, tb2⟩ : ∃ bq : Bool, (f == (mx : Int)) = bq ∧ ((P : Int) == (R : Int)) = bq := by
        by_cases hPR : P = R
        · subst hPR
          have : f = (mx : Int) := f4.2 (Nat.le_refl _)
          exact ⟨true, by simp [this], by simp⟩
        · have h1 : ¬ f = (mx : Int) := fun e => hPR (by have := f4.1 e; omega)
          have h2 : ¬ (P : Int) = (R : Int) := by omega
          exact ⟨false, by simpa using h1, by simpa using h2⟩
      clear f4
      have R2 := Lib.hid (fun q => HN.out (some ⟨g, o, none⟩) cV (w5.drewN q) (hb5.trans (below_drewN (Below.refl _ _) q)) (rV.drewN q))
      clear HN hb5
      go_wp2_with fail
      go_loopw [12] (fun t wz => ∃ k q : Nat, k ≤ Lw ∧ t = .int .i64 (k : Int) ∧ wz = w5.drewN q) (fun t _ => Lw - (intOf t).toNat)
      case atStart => exact ⟨0, 0, Nat.zero_le _, rfl, rfl⟩
      case round =>
        obtain ⟨k, q, hk, rfl, rfl⟩ := hrel
        by_cases hkL : k < Lw
        · obtain ⟨u, v, g1, g2, g3⟩ := hG.out k hkL
          obtain ⟨d1, e1⟩ := List.getElem?_eq_some_iff.1 g1
          obtain ⟨d2, e2⟩ := List.getElem?_eq_some_iff.1 g2
          obtain ⟨o1, k1, rfl, m1⟩ := r0'.int d1
          obtain ⟨o2, k2, e3, m2⟩ := rV.int d2
          cases e3
          rw [e1] at m1
          rw [e2] at m2
          have hkM : k + 1 < M := by
            have := d2
            rw [HL.out] at this
            exact this
          have tz : decide (v < u) = false := decide_eq_false (by omega)
          clear g1 g2 g3 d1 d2 e1 e2 r0' rV R2 hc r_x r_y bb
          go_wp2_with fail
          go_quiet (fail)
          go_wp2_with fail
          go_roundw
          case rel => exact ⟨k + 1, _, hkL, by go_num, rfl⟩
          case measure => simp [intOf]; omega
        · obtain rfl : k = Lw := by omega
          have R3 := Lib.hid (R2.out q)
          clear R2 r0' rV
          go_wp2_with fail
          go_roundw
          case rel => first | exact R3.out | ((repeat apply Exists.intro); exact ⟨R3.out, rfl⟩)
          case measure => simp [intOf]; omega
    · obtain rfl : P = R + 1 := by omega
      have HF := Lib.hid (below_go bb hb0)
      clear r0 hb0
      go_wp2_with fail
      go_ret
      exact Yes.of HF.out

/-! ### The row's step -/
theorem own : ownKnob Try.prog.godebug = none := by kernel_rfl
theorem laidOut : laidOutB Try.prog = true := by kernel_rfl

set_option maxRecDepth 100000 in
theorem contract (H : Type) (enc : TypeId × Value → H) (W : World) (base : Nat) (args : Array Value) (ds gs : List (DataW H)) (before : List MemPlace)
    (hval : ∀ (j : Nat) t v, Try.f7.params[j]? = some t → args[j]? = some v → Value.okWide Try.prog W .any base t v)
    (hW : DataW.Whole enc Try.prog Try.f7.params.toList Rows.onpGoesSpec.vars false W args.toList ds gs before) :
    Calls Try.prog 7 args W fun e W' => ∃ v, e = .returned v ∧ Rows.onpGoesSpec.post enc Try.prog Try.f7 false true false false W args v W' := by
  have hW' := hW
  obtain ⟨p, q, hA0, hV, rfl, hfz, hnd⟩ := hW
  have hA : DataW.TrodAll enc Try.prog W 0 (fun _ => true) true Try.f7.params.toList args.toList ds p := hA0
  rw [Try.params7] at hA hval
  obtain ⟨v0, vs0, d0, ds0, p0, q0, hargs, rfl, rfl, h0, r0⟩ := trodAll_cons hA
  obtain ⟨v1, vs1, d1, ds1, p1, q1, rfl, rfl, rfl, h1, r1⟩ := trodAll_cons r0
  obtain ⟨rfl, rfl, rfl⟩ := trodAll_nil r1
  obtain rfl : args = #[v0, v1] := by cases args; simp_all
  obtain ⟨rfl, rfl⟩ := trodVars_none hV
  have k0 := h0
  have lt0 : ∀ x ∈ p0, x.block < W.heap.size := by obtain ⟨m, hm⟩ := k0; exact DataW.trod_lt m _ _ _ hm
  obtain ⟨A0, n0, c0, e0⟩ := okWide_slice Try.underlying24 (hval 0 24 v0 rfl rfl)
  subst e0
  obtain ⟨l0, w0⟩ := open_argI Try.underlying24 Try.underlying3 (by kernel_rfl) h0
  have k1 := h1
  have lt1 : ∀ x ∈ p1, x.block < W.heap.size := by obtain ⟨m, hm⟩ := k1; exact DataW.trod_lt m _ _ _ hm
  obtain ⟨A1, n1, c1, e1⟩ := okWide_slice Try.underlying24 (hval 1 24 v1 rfl rfl)
  subst e1
  obtain ⟨l1, w1⟩ := open_argI Try.underlying24 Try.underlying3 (by kernel_rfl) h1
  clear hA0
  refine (onpGoes_walk A0 n0 c0 l0 A1 n1 c1 l1 W w0 w1).mono fun e W' ⟨he, bel⟩ => ?_
  subst he
  exact ⟨_, rfl, _, _, _, [], _, [], hW', trodAll_mk1 (shut_bool Try.underlying4 _), (trodAll_cons_mk (Below.trod laidOut (by kernel_rfl) (of_decide_eq_true (by kernel_rfl)) k0 bel lt0) (trodAll_cons_mk (Below.trod laidOut (by kernel_rfl) (of_decide_eq_true (by kernel_rfl)) k1 bel lt1) trodAll_mk0)), rfl, bel.frame _, fun h => by cases h⟩

set_option maxRecDepth 100000 in
theorem lifted (os : Os) (started : os.Started) (H : Type) (enc : TypeId × Value → H) :
    ReturnsInHanded {} Try.checked os 7 .any (Rows.onpGoesSpec.pre6 enc Try.prog Try.f7 Rows.onpGoesRow.domain false) (Rows.onpGoesSpec.post enc Try.prog Try.f7 false true false false) := by
  refine returnsInHanded_of_change (C := Try.checked) own started (by kernel_rfl) Try.func7
    (ChangeSpec.witness6 (enc := enc) (C := Try.checked) false ⟨#[], #[.slice none 0 0, .slice none 0 0], []⟩ 8 (by kernel_rfl) (by kernel_rfl) (by kernel_rfl) (by kernel_rfl)) ?_
  intro W base args ds gs before hval hW _ _
  exact contract H enc W base args ds gs before hval hW

/-- The statement. -/
theorem proved : Rows.OnpGoesSaid :=
  OpenClaim.holds_of_wide 7 Try.f7 rfl rfl rfl rfl rfl rfl rfl ⟨rfl, rfl, rfl, rfl, rfl⟩ rfl rfl rfl rfl rfl (by kernel_rfl) Try.func7 (by kernel_rfl)
    (of_decide_eq_true (by kernel_rfl)) (by unfold Func.isWrapper; first | (rw [if_pos (by decide +kernel)]; kernel_rfl) | (rw [if_neg (by decide +kernel)]; exact ⟨rfl, rfl⟩))
    (fun os started H enc _ => lifted os started H enc)

end Go.Proofs.Ytgbcdeahiemhoaa.onpGoesP
