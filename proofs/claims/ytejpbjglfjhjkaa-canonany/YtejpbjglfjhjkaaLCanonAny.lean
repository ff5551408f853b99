/-
  Proved: for every input tattinglaw23.CanonAny returns true, and its arguments read afterwards as before.
-/
import Derived.Test.YtejpbjglfjhjkaaM24
import Derived.Test.YtejpbjglfjhjkaaM26
import Derived.Test.YtejpbjglfjhjkaaM27
import Derived.Test.YtejpbjglfjhjkaaM3
import Derived.Test.YtejpbjglfjhjkaaM32
import Derived.Test.YtejpbjglfjhjkaaM4
namespace Go.Proofs.Ytejpbjglfjhjkaa.canonAnyP
open Go.ChangeShapes Go.WideShapes Go.ChangeAt Go.RowKit
open Go.ChangeMaps (open_string shut_string)

set_option maxRecDepth 100000 in
set_option maxHeartbeats 6400000 in
theorem canonAny_walk (Aa : Option Addr) (na ca : Nat) (a : List Int) (Ab : Option Addr) (nb cb : Nat) (b : List Int) (w : World) (ha : ArgI w Aa na ca a) (hb : ArgI w Ab nb cb b) :
    Calls Try.prog 6 #[.slice Aa na ca, .slice Ab nb cb] w (Yes w) := by
  obtain ⟨hna, hca, hma, r_a, hnila, hwfa⟩ := ha
  have Ha := Lib.hid hna
  have Wa := Lib.hid hwfa
  clear hna hwfa
  unfold maxLen at hma
  obtain ⟨hnb, hcb, hmb, r_b, hnilb, hwfb⟩ := hb
  have Hb := Lib.hid hnb
  have Wb := Lib.hid hwfb
  clear hnb hwfb
  unfold maxLen at hmb
  by_cases ga : na ≤ 30
  case neg =>
    go_enter Try.func6, Try.ntmps6
    go_wp2_with fail
    refine (awake23 _).mono ?_
    rintro e w1 ⟨rfl, hb1⟩
    go_wp2_with fail
    go_ret
    exact Yes.of hb1
  by_cases gb : nb ≤ 30
  case neg =>
    go_enter Try.func6, Try.ntmps6
    go_wp2_with fail
    refine (awake23 _).mono ?_
    rintro e w1 ⟨rfl, hb1⟩
    go_wp2_with fail
    go_ret
    exact Yes.of hb1
  obtain ⟨i0, hi, hz0, hz1, hz2⟩ := info_parts Try.infoPair
  go_enter Try.func6, Try.ntmps6
  go_wp2_with fail
  refine (awake23 _).mono ?_
  rintro e w1 ⟨rfl, hb⟩
  have B := below_go (Below.refl _ _) hb
  replace r_a := r_a.below B
  replace r_b := r_b.below B
  have bb := B
  clear B hb
  go_wp2_with fail
  refine (few_any _ na _ a 3 _ Ha.out (by omega) (by decide) (by decide) r_a).mono ?_
  rintro e w2 ⟨v, rfl, hv, hb⟩
  have B := below_go (Below.refl _ _) hb
  clear r_a
  replace r_b := r_b.below B
  replace bb := below_go bb B
  clear B hb
  have Hx : Hid ((few 3 a).length = na) := by show _ = _; rw [few_length, Ha.out]
  rw [Hx.out] at hv
  obtain ⟨V_x, c_x, rfl, hq_x, hm_x, r_x, hnil_x⟩ := own_slice hv
  clear hv
  generalize few 3 a = x at *
  go_wp2_with fail
  refine (few_any _ nb _ b 3 _ Hb.out (by omega) (by decide) (by decide) r_b).mono ?_
  rintro e w3 ⟨v, rfl, hv, hb⟩
  have B := below_go (Below.refl _ _) hb
  clear r_b
  replace r_x := r_x.below B
  replace bb := below_go bb B
  clear B hb
  have Hy : Hid ((few 3 b).length = nb) := by show _ = _; rw [few_length, Hb.out]
  rw [Hy.out] at hv
  obtain ⟨V_y, c_y, rfl, hq_y, hm_y, r_y, hnil_y⟩ := own_slice hv
  clear hv
  generalize few 3 b = y at *
  obtain ⟨B, D, R, K, H, N, st, e1, e2, e3, e4, e5, e6, e7, e8, e9, e10, hN0, e11, e12, e13, e14⟩ := any_facts Hx.out Hy.out (by omega)
  have E1 := Lib.hid e1
  have E2 := Lib.hid e2
  have E3 := Lib.hid e3
  have E4 := Lib.hid e4
  have HB := Lib.hid e5
  have HD := Lib.hid e6
  have HR := Lib.hid e7
  have HK := Lib.hid e8
  have HT := Lib.hid e9
  have HH := Lib.hid e10
  have HO1 := Lib.hid e11
  have HO2 := Lib.hid e12
  have HO3 := Lib.hid e13
  have HBk := Lib.hid e14
  have Hxr : Hid (x.reverse.length = na) := by show _ = _; rw [List.length_reverse, Hx.out]
  have Hyr : Hid (y.reverse.length = nb) := by show _ = _; rw [List.length_reverse, Hy.out]
  clear e1 e2 e3 e4 e5 e6 e7 e8 e9 e10 e11 e12 e13 e14
  go_wp2_with fail
  refine (rleast_any _ _ na nb _ _ x y _ Hx.out Hy.out (by omega) (by omega) r_x r_y).mono ?_
  rintro e w4 ⟨v, rfl, hv, hb⟩
  rw [E1.out, HB.out] at hv
  obtain ⟨V_want, c_want, rfl, hq_want, _, r_want, _⟩ := own_sliceS hv
  clear hv
  have B := below_go (Below.refl _ _) hb
  replace r_x := r_x.below B
  replace r_y := r_y.below B
  replace bb := below_go bb B
  clear B hb
  go_wp2_with fail
  refine (halves_w _ _ na nb _ _ st x y H _ E4.out Hx.out Hy.out (by omega) (by omega) hq_x hq_y r_x r_y).mono ?_
  rintro e w5 ⟨v, rfl, hv, hb⟩
  rw [HH.out] at hv
  obtain ⟨V_h, c_h, rfl, _, _, r_h, _⟩ := own_sliceS hv
  clear hv
  have B := below_go (Below.refl _ _) hb
  replace r_x := r_x.below B
  replace r_y := r_y.below B
  replace r_want := r_want.below B
  replace bb := below_go bb B
  clear B hb
  go_wp2_with fail
  refine (turned_any _ na _ x _ Hx.out (by omega) r_x).mono ?_
  rintro e w6 ⟨v, rfl, hv, hb⟩
  rw [Hxr.out] at hv
  obtain ⟨V_tx, c_tx, rfl, _, _, r_tx, _⟩ := own_slice hv
  clear hv
  have B := below_go (Below.refl _ _) hb
  replace r_x := r_x.below B
  replace r_y := r_y.below B
  replace r_want := r_want.below B
  replace r_h := r_h.below B
  replace bb := below_go bb B
  clear B hb
  go_wp2_with fail
  refine (turned_any _ nb _ y _ Hy.out (by omega) r_y).mono ?_
  rintro e w7 ⟨v, rfl, hv, hb⟩
  rw [Hyr.out] at hv
  obtain ⟨V_ty, c_ty, rfl, _, _, r_ty, _⟩ := own_slice hv
  clear hv
  have B := below_go (Below.refl _ _) hb
  replace r_x := r_x.below B
  replace r_y := r_y.below B
  replace r_want := r_want.below B
  replace r_h := r_h.below B
  replace r_tx := r_tx.below B
  replace bb := below_go bb B
  clear B hb
  go_wp2_with fail
  refine (rleast_any _ _ na nb _ _ x.reverse y.reverse _ Hxr.out Hyr.out (by omega) (by omega) r_tx r_ty).mono ?_
  rintro e w8 ⟨v, rfl, hv, hb⟩
  rw [E3.out, HR.out] at hv
  obtain ⟨V_r, c_r, rfl, hq_r, _, r_r, _⟩ := own_sliceS hv
  clear hv
  have B := below_go (Below.refl _ _) hb
  replace r_x := r_x.below B
  replace r_y := r_y.below B
  replace r_want := r_want.below B
  replace r_h := r_h.below B
  clear r_tx
  clear r_ty
  replace bb := below_go bb B
  clear B hb
  have HRr : Hid (Row w8 V_r (pv R)) := r_r
  clear r_r
  go_wp2_with fail
  go_loopw [10, 12] (fun v i wr => BkRel K N w8 v i wr) (fun _ i _ => (RowKit.intOf i + 1).toNat)
  case atStart => exact bk_rel (t := 0) (p := N) (by omega) ⟨0, Nat.zero_le _, rfl, World.ownsRow_nil _ _ _ _, Below.refl _ _⟩
  case round =>
    obtain ⟨t, ⟨k, hk, hkk, hwn, hbr⟩, hti⟩ := hrel
    obtain rfl : t = k := by have := Value.int.inj hkk; omega
    clear hkk
    have hsz := hbr.size
    rcases hti with ⟨htN, rfl⟩ | ⟨p, htp, rfl⟩
    case inr =>
      obtain ⟨X, Y, f1, f2, f3, f4⟩ := HBk.out t p (by omega)
      obtain ⟨g, o, rfl, hc, hd⟩ := (HRr.out.below hbr).pair (k := p) (by rw [HR.out]; omega)
      rw [(List.getElem?_eq_some_iff.1 f1).2] at hc hd
      simp only at hc hd
      have F4 := Lib.hid f4
      have htK : t < K.length := by rw [HK.out]; omega
      have HtK := Lib.hid htK
      have hpN : p < N := by omega
      have Q1 : Hid (IntKind.i64.wrap (IntKind.i64.wrap ((na : Int) - 1) - (X : Int)) = ((na - 1 - X : Nat) : Int)) := by show _ = _; rw [IntWalk.i64_in ((na : Int) - 1) (by omega), IntWalk.i64_in _ (by omega)]; omega
      have Q2 : Hid (IntKind.i64.wrap (IntKind.i64.wrap ((nb : Int) - 1) - (Y : Int)) = ((nb - 1 - Y : Nat) : Int)) := by show _ = _; rw [IntWalk.i64_in ((nb : Int) - 1) (by omega), IntWalk.i64_in _ (by omega)]; omega
      clear f1 f4 htK hk r_x r_y r_want r_h bb
      go_wp2_with fail
      go_region_law ((refine step_own rfl (.tmp 54) (.tmp 74) 22 rfl w8.heap.size 28 i0 (.agg #[.int .i64 0, .int .i64 0]) 2 16 Try.underlying22 hi hz0 hz1 hz2 rfl (by decide) _ t _ rfl ((hwn.alloc _).drew) ⟨wr.heap.size, 0, none⟩ 1 1 [.int .i64 (IntKind.i64.wrap (IntKind.i64.wrap ((na : Int) - 1) - (X : Int))), .int .i64 (IntKind.i64.wrap (IntKind.i64.wrap ((nb : Int) - 1) - (Y : Int)))] rfl rfl (pair_new wr _ _ _) (one_pair _ _) (by unfold maxLen; omega) (by omega) (Nat.le_trans hsz (by simp)) ?_; intro v' w3 hown' hg'))
      all_goals (
        have R : BkRel K N w8 v' (.int .i64 ((p : Int) - 1)) w3 := bk_rel (t := t + 1) (by omega) (app_step HtK.out F4.out Q1.out Q2.out (by first | exact hown' | (rw [List.map_id']; exact hown')) ((below_drewN (hbr.alloc hsz _) 1).grown hg' (Nat.le_trans hsz (by simp)) (fun x hx => (hwn.lt x hx).1)))
        clear hown' hg' hwn hbr
        go_simp
        go_wp2_with fail
        go_roundw
        case rel => exact R
        case measure => simp [RowKit.intOf])
    case inl =>
      have HF := Lib.hid (app_done (by rw [HK.out]; omega) hk hwn hbr)
      clear hwn hk
      obtain ⟨v9, e9, ho9, hb9⟩ := HF.out
      injection e9 with e9
      subst e9
      rw [List.map_id', HK.out] at ho9
      obtain ⟨V_last, c_last, rfl, _, _, r_last, _⟩ := own_sliceS ho9
      clear ho9 hb9 HF HRr HBk
      replace bb := below_go bb hbr
      replace r_x := r_x.below hbr
      replace r_y := r_y.below hbr
      replace r_want := r_want.below hbr
      replace r_h := r_h.below hbr
      clear hbr
      go_wp2_with fail
      refine (pof_w _ _ _ na nb N _ _ _ x y H B 0 _ (HO1.out) Hx.out Hy.out HH.out (by omega) (by omega) (by omega) hq_x hq_y r_x r_y r_h).mono ?_
      rintro e w9 ⟨v, rfl, hv, hb⟩
      rw [HB.out] at hv
      obtain ⟨V_m, c_m, rfl, _, _, r_m, _⟩ := own_sliceS hv
      clear hv
      have B := below_go (Below.refl _ _) hb
      replace r_x := r_x.below B
      replace r_y := r_y.below B
      replace r_want := r_want.below B
      clear r_h
      replace r_last := r_last.below B
      replace bb := below_go bb B
      clear B hb
      go_wp2_with fail
      refine (pof_w _ _ _ na nb N _ _ _ x y K B 0 _ (HO2.out) Hx.out Hy.out HK.out (by omega) (by omega) (by omega) hq_x hq_y r_x r_y r_last).mono ?_
      rintro e w10 ⟨v, rfl, hv, hb⟩
      rw [HB.out] at hv
      obtain ⟨V_n, c_n, rfl, _, _, r_n, _⟩ := own_sliceS hv
      clear hv
      have B := below_go (Below.refl _ _) hb
      replace r_x := r_x.below B
      replace r_y := r_y.below B
      replace r_want := r_want.below B
      replace r_last := r_last.below B
      replace r_m := r_m.below B
      replace bb := below_go bb B
      clear B hb
      go_wp2_with fail
      refine (refTurn _ N _ K _ HK.out (by omega) r_last).mono ?_
      rintro e w11 ⟨v, rfl, hv, hb⟩
      rw [HT.out] at hv
      obtain ⟨V_t, c_t, rfl, _, _, r_t, _⟩ := own_sliceS hv
      clear hv
      have B := below_go (Below.refl _ _) hb
      replace r_x := r_x.below B
      replace r_y := r_y.below B
      replace r_want := r_want.below B
      clear r_last
      replace r_m := r_m.below B
      replace r_n := r_n.below B
      replace bb := below_go bb B
      clear B hb
      go_wp2_with fail
      refine (pof_w _ _ _ nb na N _ _ _ y x (turnP K) D 0 _ (HO3.out) Hy.out Hx.out HT.out (by omega) (by omega) (by omega) hq_y hq_x r_y r_x r_t).mono ?_
      rintro e w12 ⟨v, rfl, hv, hb⟩
      rw [HD.out] at hv
      obtain ⟨V_o, c_o, rfl, _, _, r_o, _⟩ := own_sliceS hv
      clear hv
      have B := below_go (Below.refl _ _) hb
      replace r_x := r_x.below B
      replace r_y := r_y.below B
      replace r_want := r_want.below B
      replace r_m := r_m.below B
      replace r_n := r_n.below B
      clear r_t
      replace bb := below_go bb B
      clear B hb
      go_wp2_with fail
      refine (samePairs_any _ _ N N _ _ B B _ HB.out HB.out (by omega) r_m r_want).mono ?_
      rintro e w13 ⟨rfl, q, hq⟩
      have hb := below_of hq
      clear hq
      have B := below_go (Below.refl _ _) hb
      replace r_x := r_x.below B
      replace r_y := r_y.below B
      replace r_want := r_want.below B
      clear r_m
      replace r_n := r_n.below B
      replace r_o := r_o.below B
      replace bb := below_go bb B
      clear B hb
      rw [show decide (B = B) = true by simp]
      go_wp2_with fail
      refine (samePairs_any _ _ N N _ _ B B _ HB.out HB.out (by omega) r_n r_want).mono ?_
      rintro e w14 ⟨rfl, q, hq⟩
      have hb := below_of hq
      clear hq
      have B := below_go (Below.refl _ _) hb
      replace r_x := r_x.below B
      replace r_y := r_y.below B
      clear r_want
      clear r_n
      replace r_o := r_o.below B
      replace bb := below_go bb B
      clear B hb
      rw [show decide (B = B) = true by simp]
      go_wp2_with fail
      refine (rleast_any _ _ nb na _ _ y x _ Hy.out Hx.out (by omega) (by omega) r_y r_x).mono ?_
      rintro e w15 ⟨v, rfl, hv, hb⟩
      rw [E2.out, HD.out] at hv
      obtain ⟨V_d, c_d, rfl, hq_d, _, r_d, _⟩ := own_sliceS hv
      clear hv
      have B := below_go (Below.refl _ _) hb
      clear r_x
      clear r_y
      replace r_o := r_o.below B
      replace bb := below_go bb B
      clear B hb
      go_wp2_with fail
      refine (samePairs_any _ _ N N _ _ D D _ HD.out HD.out (by omega) r_o r_d).mono ?_
      rintro e w16 ⟨rfl, q, hq⟩
      have hb := below_of hq
      clear hq
      have B := below_go (Below.refl _ _) hb
      clear r_o
      clear r_d
      replace bb := below_go bb B
      clear B hb
      rw [show decide (D = D) = true by simp]
      go_wp2_with fail
      go_ret
      exact Yes.of bb

/-! ### The row's step -/
theorem own : ownKnob Try.prog.godebug = none := by kernel_rfl
theorem laidOut : laidOutB Try.prog = true := by kernel_rfl

set_option maxRecDepth 100000 in
theorem contract (H : Type) (enc : TypeId × Value → H) (W : World) (base : Nat) (args : Array Value) (ds gs : List (DataW H)) (before : List MemPlace)
    (hval : ∀ (j : Nat) t v, Try.f6.params[j]? = some t → args[j]? = some v → Value.okWide Try.prog W .any base t v)
    (hW : DataW.Whole enc Try.prog Try.f6.params.toList Rows.canonAnySpec.vars false W args.toList ds gs before) :
    Calls Try.prog 6 args W fun e W' => ∃ v, e = .returned v ∧ Rows.canonAnySpec.post enc Try.prog Try.f6 false true false false W args v W' := by
  have hW' := hW
  obtain ⟨p, q, hA0, hV, rfl, hfz, hnd⟩ := hW
  have hA : DataW.TrodAll enc Try.prog W 0 (fun _ => true) true Try.f6.params.toList args.toList ds p := hA0
  rw [Try.params6] at hA hval
  obtain ⟨v0, vs0, d0, ds0, p0, q0, hargs, rfl, rfl, h0, r0⟩ := trodAll_cons hA
  obtain ⟨v1, vs1, d1, ds1, p1, q1, rfl, rfl, rfl, h1, r1⟩ := trodAll_cons r0
  obtain ⟨rfl, rfl, rfl⟩ := trodAll_nil r1
  obtain rfl : args = #[v0, v1] := by cases args; simp_all
  obtain ⟨rfl, rfl⟩ := trodVars_none hV
  have k0 := h0
  have lt0 : ∀ x ∈ p0, x.block < W.heap.size := by obtain ⟨m, hm⟩ := k0; exact DataW.trod_lt m _ _ _ hm
  obtain ⟨A0, n0, c0, e0⟩ := okWide_slice Try.underlying26 (hval 0 26 v0 rfl rfl)
  subst e0
  obtain ⟨l0, w0⟩ := open_argI Try.underlying26 Try.underlying3 (by kernel_rfl) h0
  have k1 := h1
  have lt1 : ∀ x ∈ p1, x.block < W.heap.size := by obtain ⟨m, hm⟩ := k1; exact DataW.trod_lt m _ _ _ hm
  obtain ⟨A1, n1, c1, e1⟩ := okWide_slice Try.underlying26 (hval 1 26 v1 rfl rfl)
  subst e1
  obtain ⟨l1, w1⟩ := open_argI Try.underlying26 Try.underlying3 (by kernel_rfl) h1
  clear hA0
  refine (canonAny_walk A0 n0 c0 l0 A1 n1 c1 l1 W w0 w1).mono fun e W' ⟨he, bel⟩ => ?_
  subst he
  exact ⟨_, rfl, _, _, _, [], _, [], hW', trodAll_mk1 (shut_bool Try.underlying4 _), (trodAll_cons_mk (Below.trod laidOut (by kernel_rfl) (of_decide_eq_true (by kernel_rfl)) k0 bel lt0) (trodAll_cons_mk (Below.trod laidOut (by kernel_rfl) (of_decide_eq_true (by kernel_rfl)) k1 bel lt1) trodAll_mk0)), rfl, bel.frame _, fun h => by cases h⟩

set_option maxRecDepth 100000 in
theorem lifted (os : Os) (started : os.Started) (H : Type) (enc : TypeId × Value → H) :
    ReturnsInHanded {} Try.checked os 6 .any (Rows.canonAnySpec.pre6 enc Try.prog Try.f6 Rows.canonAnyRow.domain false) (Rows.canonAnySpec.post enc Try.prog Try.f6 false true false false) := by
  refine returnsInHanded_of_change (C := Try.checked) own started (by kernel_rfl) Try.func6
    (ChangeSpec.witness6 (enc := enc) (C := Try.checked) false ⟨#[], #[.slice none 0 0, .slice none 0 0], []⟩ 8 (by kernel_rfl) (by kernel_rfl) (by kernel_rfl) (by kernel_rfl)) ?_
  intro W base args ds gs before hval hW _ _
  exact contract H enc W base args ds gs before hval hW

/-- The statement. -/
theorem proved : Rows.CanonAnySaid :=
  OpenClaim.holds_of_wide 6 Try.f6 rfl rfl rfl rfl rfl rfl rfl ⟨rfl, rfl, rfl, rfl, rfl⟩ rfl rfl rfl rfl rfl (by kernel_rfl) Try.func6 (by kernel_rfl)
    (of_decide_eq_true (by kernel_rfl)) (by unfold Func.isWrapper; first | (rw [if_pos (by decide +kernel)]; kernel_rfl) | (rw [if_neg (by decide +kernel)]; exact ⟨rfl, rfl⟩))
    (fun os started H enc _ => lifted os started H enc)

end Go.Proofs.Ytejpbjglfjhjkaa.canonAnyP
