/-
  Core of the statement VecWidths (over the contracts of package vec).
-/
import Derived.Test.YtndmgpgdkekbhaaVl2
import Derived.Deep.DeepCutAuto
namespace Go.Proofs.Ytndmgpgdkekbhaa
open Go.RowKit

def WideRel (m : Nat) (v : Value) : Prop := v = .bool true ∨ v = .bool false ∧ m ≤ 8
theorem wide_in {m : Nat} {b : Bool} (h : m ≤ 8) : WideRel m (.bool b) := by
  cases b
  · exact .inr ⟨rfl, h⟩
  · exact .inl rfl

set_option maxRecDepth 100000 in
set_option maxHeartbeats 1600000 in
theorem vecWidths_core (hA : Op2OK 20 sumB) (hW : WordsOK) (hO : OnesOK) (hG : GetOK) (hF : Op1OK 10 bt) (hN : Op1OK 11 (fun x j => !bt x j)) (hC : CountOK) (A : Option Addr) (m c : Nat) (x : List Nat) (n : Int) (w : World) (ha : ArgU w A m c x) (hn : (Lit.int .i64 n).wf = true) :
    Calls Try.prog 6 #[.slice A m c, .int .i64 n] w (Yes w) := by
  obtain ⟨hm, hc, hcm, rA, _, hx⟩ := ha
  have HM := Lib.hid hm
  have HCM := Lib.hid hcm
  have HI : Hid (I64 n) := bounds_i64 hn
  unfold maxLen at hcm
  clear hm hn
  go_enter Try.func6, Try.ntmps6
  go_wp2_with fail
  refine (awake_core hA hW hO hG _).mono ?_
  rintro e w1 ⟨rfl, bb1⟩
  have rA1 := rA.below bb1
  clear rA
  go_upto_region 3 with (fail)
  go_cut [17] (fun v wx => WideRel m v ∧ wx = w1)
  case first =>
    by_cases hN : m ≤ 8
    · have hz : decide (8 < (m : Int)) = false := by simp; omega
      have hz' : decide (8 < m) = false := by simp; omega
      go_wp2_with fail
      all_goals (go_meet; exact ⟨wide_in hN, rfl⟩)
    · have hz : decide (8 < (m : Int)) = true := by simp; omega
      have hz' : decide (8 < m) = true := by simp; omega
      go_wp2_with fail
      all_goals (go_meet; exact ⟨.inl rfl, rfl⟩)
  case rest =>
    obtain ⟨hcut, hwc⟩ := hcut
    have hwc' := hwc.symm
    subst hwc'
    rcases hcut with rfl | ⟨rfl, hM⟩
    · go_wp2_with fail
      go_ret
      exact Yes.of bb1
    · go_wp2_with fail
      refine (hW n w1 HI.out).mono ?_
      rintro e w2 ⟨rfl, hb⟩
      have bb2 := below_go bb1 hb
      have rA2 := rA1.below hb
      clear hb bb1 rA1
      go_wp2_with fail
      refine (words_any n w2).mono ?_
      rintro e w' ⟨rfl, hw'⟩
      subst hw'
      go_wp2_with fail
      refine (hO n w2 HI.out).mono ?_
      rintro e w3 ⟨v1, p1, rfl, l1, u1, b1, o1, hb⟩
      have bb3 := below_go bb2 hb
      have rA3 := rA2.below hb
      obtain ⟨P1, e1, rfl, _, q1, r1, _⟩ := own_slice o1
      have L1 := Lib.hid l1
      have B1 := Lib.hid b1
      clear hb o1 rA2 bb2 l1 b1
      go_wp2_with fail
      refine (ones_any n w3).mono ?_
      rintro e w4 ⟨v2, p2, rfl, l2, u2, b2, o2, hb⟩
      have bb4 := below_go bb3 hb
      have rA4 := rA3.below hb
      have r1 := Row.below (w := w3) r1 hb
      have ep := made_same l2 L1.out u2 u1 b2 B1.out (fun j _ => rfl)
      subst ep
      obtain ⟨P2, e2, rfl, _, _, r2, _⟩ := own_slice o2
      unfold maxLen at q1
      clear hb o2 L1 l2 u1 u2 B1 b2 rA3 bb3
      go_wp2_with fail
      refine (sameW_any P1 P2 _ _ e1 e2 p2 p2 w4 rfl rfl (by omega) r1 r2).mono ?_
      rintro e w5 ⟨rfl, q, hq⟩
      have bb5 := below_drawn hq bb4
      have rA5 := Row.drawn hq rA4
      rw [show decide (p2 = p2) = true by simp]
      clear hq r1 r2 rA4 bb4 q1
      go_wp2_with fail
      refine (hF A m c x n w5 HM.out (by omega) hc HCM.out HI.out rA5 hx).mono ?_
      rintro e w6 ⟨v1, p1, rfl, l1, u1, b1, o1, hb⟩
      have bb6 := below_go bb5 hb
      have rA6 := rA5.below hb
      obtain ⟨P1, e1, rfl, _, q1, r1, _⟩ := own_slice o1
      have L1 := Lib.hid l1
      have B1 := Lib.hid b1
      clear hb o1 rA5 bb5 l1 b1
      go_wp2_with fail
      refine (fit_any A m c x n w6 HM.out rA6 hx).mono ?_
      rintro e w7 ⟨v2, p2, rfl, l2, u2, b2, o2, hb⟩
      have bb7 := below_go bb6 hb
      have rA7 := rA6.below hb
      have r1 := Row.below (w := w6) r1 hb
      have ep := made_same l2 L1.out u2 u1 b2 B1.out (fun j _ => rfl)
      subst ep
      obtain ⟨P2, e2, rfl, _, _, r2, _⟩ := own_slice o2
      unfold maxLen at q1
      clear hb o2 L1 l2 u1 u2 B1 b2 rA6 bb6
      go_wp2_with fail
      refine (sameW_any P1 P2 _ _ e1 e2 p2 p2 w7 rfl rfl (by omega) r1 r2).mono ?_
      rintro e w8 ⟨rfl, q, hq⟩
      have bb8 := below_drawn hq bb7
      have rA8 := Row.drawn hq rA7
      rw [show decide (p2 = p2) = true by simp]
      clear hq r1 r2 rA7 bb7 q1
      go_wp2_with fail
      refine (hN A m c x n w8 HM.out (by omega) hc HCM.out HI.out rA8 hx).mono ?_
      rintro e w9 ⟨v1, p1, rfl, l1, u1, b1, o1, hb⟩
      have bb9 := below_go bb8 hb
      have rA9 := rA8.below hb
      obtain ⟨P1, e1, rfl, _, q1, r1, _⟩ := own_slice o1
      have L1 := Lib.hid l1
      have B1 := Lib.hid b1
      clear hb o1 rA8 bb8 l1 b1
      go_wp2_with fail
      refine (not_any A m c x n w9 HM.out rA9 hx).mono ?_
      rintro e w10 ⟨v2, p2, rfl, l2, u2, b2, o2, hb⟩
      have bb10 := below_go bb9 hb
      have rA10 := rA9.below hb
      have r1 := Row.below (w := w9) r1 hb
      have ep := made_same l2 L1.out u2 u1 b2 B1.out (fun j _ => rfl)
      subst ep
      obtain ⟨P2, e2, rfl, _, _, r2, _⟩ := own_slice o2
      unfold maxLen at q1
      clear hb o2 L1 l2 u1 u2 B1 b2 rA9 bb9
      go_wp2_with fail
      refine (sameW_any P1 P2 _ _ e1 e2 p2 p2 w10 rfl rfl (by omega) r1 r2).mono ?_
      rintro e w11 ⟨rfl, q, hq⟩
      have bb11 := below_drawn hq bb10
      have rA11 := Row.drawn hq rA10
      rw [show decide (p2 = p2) = true by simp]
      clear hq r1 r2 rA10 bb10 q1
      go_wp2_with fail
      refine (hC A m c x n w11 HM.out (by omega) hc HCM.out HI.out rA11 hx).mono ?_
      rintro e w12 ⟨rfl, hb⟩
      have bb12 := below_go bb11 hb
      have rA12 := rA11.below hb
      clear hb bb11 rA11
      go_wp2_with fail
      refine (count_any A m c x n w12 HM.out rA12 hx).mono ?_
      rintro e w' ⟨rfl, hw'⟩
      subst hw'
      generalize cnt (bt x) (wid n) = N at *
      go_wp2_with fail
      go_ret
      exact Yes.of bb12

end Go.Proofs.Ytndmgpgdkekbhaa
