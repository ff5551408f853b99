/-
  Core of the statement VecBack (over the contracts of package vec).
-/
import Derived.Test.YtndmgpgdkekbhaaVl1
import Derived.Deep.DeepCutAuto
namespace Go.Proofs.Ytndmgpgdkekbhaa
open Go.RowKit

theorem sumB_val {x y : List Nat} (hx : Wd x) (hy : Wd y) (j : Nat) : sumB x y j = (val x + val y).testBit j := by
  rw [add_bits]
  unfold sumB
  rw [val_bit x hx, val_bit y hy, funext (val_bit x hx), funext (val_bit y hy)]
theorem sumB_comm {x y : List Nat} (hx : Wd x) (hy : Wd y) (j : Nat) : sumB x y j = sumB y x j := by rw [sumB_val hx hy, sumB_val hy hx, Nat.add_comm]
theorem difB_back {x y s : List Nat} {W : Nat} (hx : Wd x) (hy : Wd y) (hs : Wd s) (h : ∀ j, bt s j = (decide (j < 64 * W) && sumB x y j)) (j : Nat) (hj : j < 64 * W) : difB s y j = bt x j := by
  have h1 : ∀ j, j < 64 * W → (val x + val y).testBit j = (val s).testBit j := fun j hj => by
    rw [← sumB_val hx hy, val_bit s hs, h, decide_eq_true hj, Bool.true_and]
  have h2 := (sub_bits h1 j (by omega)).2 hj
  rw [val_bit x hx] at h2
  rw [h2]
  unfold difB
  rw [val_bit s hs, val_bit y hy, funext (val_bit s hs), funext (val_bit y hy)]
theorem cnt_not {g h : Nat → Bool} : ∀ K, (∀ j, j < K → h j = !g j) → cnt g K + cnt h K = K
  | 0, _ => rfl
  | K + 1, e => by
    have := cnt_not K (fun j hj => e j (by omega))
    rw [cnt, cnt, e K (by omega)]
    cases g K <;> simp <;> omega
theorem wid_nat {k : Nat} (h : k ≤ 1048576) : wid (k : Int) = k := by
  unfold wid
  rw [if_neg (by omega), if_neg (by omega)]
  omega
theorem wds_nat {W : Nat} (h : 64 * W ≤ 1048576) : wds ((64 * W : Nat) : Int) = W := by
  unfold wds
  rw [wid_nat h]
  omega

def BackRel (n m : Nat) (v : Value) : Prop := v = .bool true ∨ v = .bool false ∧ n ≤ 6 ∧ m ≤ 6

set_option maxRecDepth 100000 in
set_option maxHeartbeats 3200000 in
theorem vecBack_core (hA : Op2OK 20 sumB) (hW : WordsOK) (hO : OnesOK) (hG : GetOK) (hS : Op2OK 12 difB) (hF : Op1OK 10 bt) (hN : Op1OK 11 (fun x j => !bt x j)) (hC : CountOK)
    (A : Option Addr) (n c : Nat) (x : List Nat) (B : Option Addr) (m d : Nat) (y : List Nat) (q : Int) (w : World) (ha : ArgU w A n c x) (hb : ArgU w B m d y) (hq : (Lit.int .u16 q).wf = true) :
    Calls Try.prog 8 #[.slice A n c, .slice B m d, .int .u16 q] w (Yes w) := by
  obtain ⟨hn, hc, hcm, rA, _, hx⟩ := ha
  obtain ⟨hm, hd, hdm, rB, _, hy⟩ := hb
  have HN := Lib.hid hn
  have HM := Lib.hid hm
  have HC := Lib.hid hcm
  have HD := Lib.hid hdm
  have hqq := bounds_u16 hq
  obtain ⟨q, rfl⟩ := Int.eq_ofNat_of_zero_le hqq.1
  unfold maxLen at hcm hdm
  clear hn hm hq
  go_enter Try.func8, Try.ntmps8
  go_wp2_with fail
  refine (awake_core hA hW hO hG _).mono ?_
  rintro e w1 ⟨rfl, bb1⟩
  have rA1 := rA.below bb1
  have rB1 := rB.below bb1
  clear rA rB
  go_upto_region 3 with (fail)
  go_cut [18] (fun v wx => BackRel n m v ∧ wx = w1)
  case first =>
    by_cases h1 : n ≤ 6
    · have hz : decide (6 < (n : Int)) = false := by simp; omega
      have hz' : decide (6 < n) = false := by simp; omega
      by_cases h2 : m ≤ 6
      · have hy : decide (6 < (m : Int)) = false := by simp; omega
        have hy' : decide (6 < m) = false := by simp; omega
        go_wp2_with fail
        all_goals (go_meet; exact ⟨.inr ⟨rfl, h1, h2⟩, rfl⟩)
      · have hy : decide (6 < (m : Int)) = true := by simp; omega
        have hy' : decide (6 < m) = true := by simp; omega
        go_wp2_with fail
        all_goals (go_meet; exact ⟨.inl rfl, rfl⟩)
    · have hz : decide (6 < (n : Int)) = true := by simp; omega
      have hz' : decide (6 < n) = true := by simp; omega
      go_wp2_with fail
      all_goals (go_meet; exact ⟨.inl rfl, rfl⟩)
  case rest =>
    obtain ⟨hcut, hwc⟩ := hcut
    have hwc' := hwc.symm
    subst hwc'
    rcases hcut with rfl | ⟨rfl, h6, h6'⟩
    · go_wp2_with fail
      go_ret
      exact Yes.of bb1
    · obtain ⟨W, hW'⟩ : ∃ W, max n m = W := ⟨_, rfl⟩
      have HW := Lib.hid hW'
      have hWl : W ≤ 6 := by omega
      clear hW'
      go_upto_region 5 with (fail)
      go_cut [7] (fun v wx => v = .int .i64 (W : Nat) ∧ wx = w1)
      case first =>
        have := HW.out
        by_cases hmn : n < m
        · obtain rfl : m = W := by omega
          go_wp2_with fail
          all_goals (go_meet; exact ⟨rfl, rfl⟩)
        · obtain rfl : n = W := by omega
          go_wp2_with fail
          all_goals (go_meet; first | exact ⟨rfl, rfl⟩ | exact ⟨by congr 1; omega, rfl⟩)
      case rest =>
        obtain ⟨rfl, hwc⟩ := hcut
        have hwc' := hwc.symm
        subst hwc'
        obtain ⟨k, hk⟩ : ∃ k, q % 400 = k := ⟨_, rfl⟩
        have zk : (q : Int) % 400 = (k : Int) := by omega
        have hkl : k < 400 := by omega
        obtain ⟨N, hN'⟩ : ∃ N, 64 * W = N := ⟨_, rfl⟩
        have eN : (64 : Int) * (W : Int) = (N : Int) := by omega
        have hNl : N ≤ 1048576 := by omega
        have HNN := Lib.hid hN'
        clear hN' hk
        go_wp2_with fail
        refine (hA A B n m c d x y w1 HN.out HM.out (by omega) (by omega) hc HC.out hd HD.out rA1 rB1 hx hy).mono ?_
        rintro e w2 ⟨v, s, rfl, ls, us, bs, os, hb⟩
        have bb2 := below_go bb1 hb
        have rA2 := rA1.below hb
        have rB2 := rB1.below hb
        rw [HW.out] at ls bs
        rw [ls] at os
        obtain ⟨S1, cs, rfl, hcs, hcsm, rS, _⟩ := own_slice os
        have LS := Lib.hid ls
        have BS1 := Lib.hid bs
        have HCS := Lib.hid hcsm
        clear hb os rA1 rB1 bb1 ls bs hcsm
        go_wp2_with fail
        refine (hS S1 B W m cs d s y w2 LS.out HM.out (by omega) (by omega) hcs HCS.out hd HD.out rS rB2 us hy).mono ?_
        rintro e w3 ⟨v, t, rfl, lt, ut, bt', ot, hb⟩
        have bb3 := below_go bb2 hb
        have rA3 := rA2.below hb
        have rB3 := rB2.below hb
        rw [show max W m = W by have := HW.out; omega] at lt bt'
        rw [lt] at ot
        obtain ⟨T1, ct, rfl, hct, hctm, rT, _⟩ := own_slice ot
        have LT := Lib.hid lt
        have BT := Lib.hid bt'
        clear hb ot rA2 rB2 bb2 lt bt' rS hcs HCS hctm
        go_wp2_with fail
        refine (fit_any A n c x (N : Int) w3 HN.out rA3 hx).mono ?_
        rintro e w4 ⟨v, f, rfl, lf, uf, bf, of', hb⟩
        have bb4 := below_go bb3 hb
        have rA4 := rA3.below hb
        have rB4 := rB3.below hb
        have rT4 := Row.below (w := w3) rT hb
        have eW : wds (N : Int) = W := by rw [← HNN.out]; exact wds_nat (by omega)
        rw [eW] at lf bf
        rw [lf] at of'
        obtain ⟨F1, cf, rfl, hcf, hcfm, rF, _⟩ := own_slice of'
        have ep : f = t := made_same lf LT.out uf ut bf BT.out (fun j hj => by
          rw [wid_nat hNl, ← HNN.out, decide_eq_true hj, Bool.true_and, difB_back hx hy us BS1.out j hj])
        subst ep
        clear hb of' rA3 rB3 bb3 eW bf uf ut BT rT hcfm LT BS1 hct hcf us LS s
        go_wp2_with fail
        refine (sameW_any T1 F1 W W ct cf f f w4 lf lf (by omega) rT4 rF).mono ?_
        rintro e w5 ⟨rfl, q5, hq5⟩
        have bb5 := below_drawn hq5 bb4
        have rA5 := Row.drawn hq5 rA4
        have rB5 := Row.drawn hq5 rB4
        rw [show decide (f = f) = true by simp]
        clear hq5 rA4 rB4 bb4 rT4 rF lf
        go_wp2_with fail
        refine (hA A B n m c d x y w5 HN.out HM.out (by omega) (by omega) hc HC.out hd HD.out rA5 rB5 hx hy).mono ?_
        rintro e w6 ⟨v, s, rfl, ls, us, bs, os, hb⟩
        have bb6 := below_go bb5 hb
        have rA6 := rA5.below hb
        have rB6 := rB5.below hb
        rw [HW.out] at ls bs
        rw [ls] at os
        obtain ⟨S1, cs, rfl, hcs, hcsm, rS, _⟩ := own_slice os
        have LS := Lib.hid ls
        have BS1 := Lib.hid bs
        clear hb os rA5 rB5 bb5 ls bs hcsm
        go_wp2_with fail
        refine (hA B A m n d c y x w6 HM.out HN.out (by omega) (by omega) hd HD.out hc HC.out rB6 rA6 hy hx).mono ?_
        rintro e w7 ⟨v, t, rfl, lt, ut, bt', ot, hb⟩
        have bb7 := below_go bb6 hb
        have rA7 := rA6.below hb
        have rS7 := Row.below (w := w6) rS hb
        rw [show max m n = W by have := HW.out; omega] at lt bt'
        rw [lt] at ot
        obtain ⟨T1, ct, rfl, hct, hctm, rT, _⟩ := own_slice ot
        have ep : t = s := made_same lt LS.out ut us bt' BS1.out (fun j _ => sumB_comm hy hx j)
        subst ep
        clear hb ot rA6 rB6 bb6 bt' rS hcs BS1 LS ut us hct hctm
        go_wp2_with fail
        refine (sameW_any S1 T1 W W cs ct t t w7 lt lt (by omega) rS7 rT).mono ?_
        rintro e w8 ⟨rfl, q8, hq8⟩
        have bb8 := below_drawn hq8 bb7
        have rA8 := Row.drawn hq8 rA7
        rw [show decide (t = t) = true by simp]
        clear hq8 rA7 bb7 rS7 rT lt
        have hIk : Hid (I64 (k : Int)) := i64_small (by omega)
        have hwk : wid (k : Int) = k := wid_nat (by omega)
        have HWK := Lib.hid hwk
        obtain ⟨V, hV⟩ : ∃ V, wds (k : Int) = V := ⟨_, rfl⟩
        have hVl : V ≤ 16384 := by rw [← hV]; exact wds_le _
        have HV := Lib.hid hV
        have HVW : Hid (k ≤ 64 * V) := by show _ ≤ _; rw [← hV, ← hwk]; simpa [hwk] using wds_wid (k : Int)
        clear hwk hV
        go_wp2_with fail
        refine (hN A n c x (k : Int) w8 HN.out (by omega) hc HC.out hIk.out rA8 hx).mono ?_
        rintro e w9 ⟨v, s, rfl, ls, us, bs, os, hb⟩
        have bb9 := below_go bb8 hb
        have rA9 := rA8.below hb
        rw [HV.out] at ls bs
        rw [HWK.out] at bs
        rw [ls] at os
        obtain ⟨S1, cs, rfl, hcs, hcsm, rS, _⟩ := own_slice os
        have LS := Lib.hid ls
        have BS1 := Lib.hid bs
        have HCS := Lib.hid hcsm
        clear hb os rA8 bb8 ls bs hcsm
        go_wp2_with fail
        refine (hN S1 V cs s (k : Int) w9 LS.out (by omega) hcs HCS.out hIk.out rS us).mono ?_
        rintro e w10 ⟨v, t, rfl, lt, ut, bt', ot, hb⟩
        have bb10 := below_go bb9 hb
        have rA10 := rA9.below hb
        rw [HV.out] at lt bt'
        rw [HWK.out] at bt'
        rw [lt] at ot
        obtain ⟨T1, ct, rfl, hct, hctm, rT, _⟩ := own_slice ot
        have LT := Lib.hid lt
        have BT := Lib.hid bt'
        clear hb ot rA9 bb9 lt bt' rS hcs HCS hctm
        go_wp2_with fail
        refine (hF A n c x (k : Int) w10 HN.out (by omega) hc HC.out hIk.out rA10 hx).mono ?_
        rintro e w11 ⟨v, f, rfl, lf, uf, bf, of', hb⟩
        have bb11 := below_go bb10 hb
        have rA11 := rA10.below hb
        have rT11 := Row.below (w := w10) rT hb
        rw [HV.out] at lf bf
        rw [HWK.out] at bf
        rw [lf] at of'
        obtain ⟨F1, cf, rfl, hcf, hcfm, rF, _⟩ := own_slice of'
        have ep : f = t := made_same lf LT.out uf ut bf BT.out (fun j hj => by
          by_cases hjk : j < k
          · rw [decide_eq_true hjk, Bool.true_and, Bool.true_and, BS1.out, decide_eq_true hj, decide_eq_true hjk, Bool.true_and, Bool.true_and, Bool.not_not]
          · rw [decide_eq_false hjk, Bool.false_and, Bool.false_and])
        subst ep
        clear hb of' rA10 bb10 bf uf ut BT rT hcfm LT BS1 hct hcf us LS s
        go_wp2_with fail
        refine (sameW_any T1 F1 V V ct cf f f w11 lf lf (by omega) rT11 rF).mono ?_
        rintro e w12 ⟨rfl, q12, hq12⟩
        have bb12 := below_drawn hq12 bb11
        have rA12 := Row.drawn hq12 rA11
        rw [show decide (f = f) = true by simp]
        clear hq12 rA11 bb11 rT11 rF lf
        go_wp2_with fail
        refine (hC A n c x (k : Int) w12 HN.out (by omega) hc HC.out hIk.out rA12 hx).mono ?_
        rintro e w13 ⟨rfl, hb⟩
        have bb13 := below_go bb12 hb
        have rA13 := rA12.below hb
        rw [HWK.out]
        clear hb bb12 rA12
        obtain ⟨c1, hc1⟩ : ∃ z, cnt (bt x) k = z := ⟨_, rfl⟩
        have HC1 := Lib.hid hc1
        have hc1l : c1 ≤ k := by rw [← hc1]; exact cnt_le _ _
        rw [hc1]
        clear hc1
        go_wp2_with fail
        refine (hN A n c x (k : Int) w13 HN.out (by omega) hc HC.out hIk.out rA13 hx).mono ?_
        rintro e w14 ⟨v, s, rfl, ls, us, bs, os, hb⟩
        have bb14 := below_go bb13 hb
        rw [HV.out] at ls bs
        rw [HWK.out] at bs
        rw [ls] at os
        obtain ⟨S1, cs, rfl, hcs, hcsm, rS, _⟩ := own_slice os
        have HCN : Hid (cnt (bt x) k + cnt (bt s) k = k) := cnt_not k fun j hj => by
          have := HVW.out
          rw [bs]
          show (decide (j < 64 * V) && (decide (j < k) && !bt x j)) = _
          rw [decide_eq_true hj, decide_eq_true (by omega), Bool.true_and, Bool.true_and]
        have HCS := Lib.hid hcsm
        clear hb os rA13 bb13 bs hcsm
        go_wp2_with fail
        refine (hC S1 V cs s (k : Int) w14 ls (by omega) hcs HCS.out hIk.out rS us).mono ?_
        rintro e w15 ⟨rfl, hb⟩
        have bb15 := below_go bb14 hb
        rw [HWK.out]
        have hsum := HCN.out
        rw [HC1.out] at hsum
        clear hb bb14 rS HCN HC1
        generalize cnt (bt s) k = c2 at *
        obtain rfl : k = c1 + c2 := hsum.symm
        clear hsum
        go_wp2_with fail
        go_ret
        exact Yes.of bb15

end Go.Proofs.Ytndmgpgdkekbhaa
