/-
  Cores of the statements VecSums and VecBoth (over the contracts of package vec).
-/
import Derived.Test.YtndmgpgdkekbhaaVl1
namespace Go.Proofs.Ytndmgpgdkekbhaa
open Go.RowKit

set_option maxRecDepth 100000 in
set_option maxHeartbeats 1600000 in
theorem vecSums_core (hA : Op2OK 20 sumB) (hW : WordsOK) (hO : OnesOK) (hG : GetOK) (h2 : Op2OK 12 (difB)) (A : Option Addr) (n c : Nat) (x : List Nat) (B : Option Addr) (m d : Nat) (y : List Nat) (w : World) (ha : ArgU w A n c x) (hb : ArgU w B m d y) :
    Calls Try.prog 4 #[.slice A n c, .slice B m d] w (Yes w) := by
  obtain ⟨hn, hc, hcm, rA, _, hx⟩ := ha
  obtain ⟨hm, hd, hdm, rB, _, hy⟩ := hb
  have HN := Lib.hid hn
  have HM := Lib.hid hm
  have HC := Lib.hid hcm
  have HD := Lib.hid hdm
  unfold maxLen at hcm hdm
  clear hn hm
  by_cases g1 : n ≤ 8
  · by_cases g2 : m ≤ 8
    · go_enter Try.func4, Try.ntmps4
      go_wp2_with fail
      refine (awake_core hA hW hO hG _).mono ?_
      rintro e w1 ⟨rfl, bb1⟩
      have rA1 := rA.below bb1
      have rB1 := rB.below bb1
      clear rA rB
      go_wp2_with fail
      refine (hA A B n m c d x y w1 HN.out HM.out (by omega) (by omega) hc HC.out hd HD.out rA1 rB1 hx hy).mono ?_
      rintro e w2 ⟨v1, p1, rfl, l1, u1, b1, o1, hb⟩
      have bb2 := below_go bb1 hb
      have rA2 := rA1.below hb
      have rB2 := rB1.below hb
      obtain ⟨P1, e1, rfl, _, q1, r1, _⟩ := own_slice o1
      have L1 := Lib.hid l1
      have B1 := Lib.hid b1
      clear hb o1 rA1 rB1 bb1 l1 b1
      go_wp2_with fail
      refine (add_any A B n m c d x y w2 HN.out HM.out (by omega) (by omega) rA2 rB2 hx hy).mono ?_
      rintro e w3 ⟨v2, p2, rfl, l2, u2, b2, o2, hb⟩
      have bb3 := below_go bb2 hb
      have rA3 := rA2.below hb
      have rB3 := rB2.below hb
      have r1 := Row.below (w := w2) r1 hb
      have ep := made_same l2 L1.out u2 u1 b2 B1.out (fun j _ => rfl)
      subst ep
      obtain ⟨P2, e2, rfl, _, _, r2, _⟩ := own_slice o2
      unfold maxLen at q1
      clear hb o2 L1 l2 u1 u2 B1 b2 rA2 rB2 bb2
      go_wp2_with fail
      refine (sameW_any P1 P2 _ _ e1 e2 p2 p2 w3 rfl rfl (by omega) r1 r2).mono ?_
      rintro e w4 ⟨rfl, q, hq⟩
      have bb4 := below_drawn hq bb3
      have rA4 := Row.drawn hq rA3
      have rB4 := Row.drawn hq rB3
      rw [show decide (p2 = p2) = true by simp]
      clear hq r1 r2 rA3 rB3 bb3 q1
      go_wp2_with fail
      refine (h2 A B n m c d x y w4 HN.out HM.out (by omega) (by omega) hc HC.out hd HD.out rA4 rB4 hx hy).mono ?_
      rintro e w5 ⟨v1, p1, rfl, l1, u1, b1, o1, hb⟩
      have bb5 := below_go bb4 hb
      have rA5 := rA4.below hb
      have rB5 := rB4.below hb
      obtain ⟨P1, e1, rfl, _, q1, r1, _⟩ := own_slice o1
      have L1 := Lib.hid l1
      have B1 := Lib.hid b1
      clear hb o1 rA4 rB4 bb4 l1 b1
      go_wp2_with fail
      refine (sub_any A B n m c d x y w5 HN.out HM.out (by omega) (by omega) rA5 rB5 hx hy).mono ?_
      rintro e w6 ⟨v2, p2, rfl, l2, u2, b2, o2, hb⟩
      have bb6 := below_go bb5 hb
      have rA6 := rA5.below hb
      have rB6 := rB5.below hb
      have r1 := Row.below (w := w5) r1 hb
      have ep := made_same l2 L1.out u2 u1 b2 B1.out (fun j _ => rfl)
      subst ep
      obtain ⟨P2, e2, rfl, _, _, r2, _⟩ := own_slice o2
      unfold maxLen at q1
      clear hb o2 L1 l2 u1 u2 B1 b2 rA5 rB5 bb5
      go_wp2_with fail
      refine (sameW_any P1 P2 _ _ e1 e2 p2 p2 w6 rfl rfl (by omega) r1 r2).mono ?_
      rintro e w7 ⟨rfl, q, hq⟩
      have bb7 := below_drawn hq bb6
      have rA7 := Row.drawn hq rA6
      have rB7 := Row.drawn hq rB6
      rw [show decide (p2 = p2) = true by simp]
      clear hq r1 r2 rA6 rB6 bb6 q1
      go_wp2_with fail
      go_ret
      exact Yes.of bb7
    · go_enter Try.func4, Try.ntmps4
      go_wp2_with fail
      refine (awake_core hA hW hO hG _).mono ?_
      rintro e w1 ⟨rfl, hb1⟩
      go_wp2_with fail
      go_ret
      exact Yes.of hb1
  · go_enter Try.func4, Try.ntmps4
    go_wp2_with fail
    refine (awake_core hA hW hO hG _).mono ?_
    rintro e w1 ⟨rfl, hb1⟩
    go_wp2_with fail
    go_ret
    exact Yes.of hb1

set_option maxRecDepth 100000 in
set_option maxHeartbeats 1600000 in
theorem vecBoth_core (hA : Op2OK 20 sumB) (hW : WordsOK) (hO : OnesOK) (hG : GetOK) (h1 : Op2OK 18 (fun x y j => bt x j && bt y j)) (h2 : Op2OK 24 (fun x y j => bt x j || bt y j)) (A : Option Addr) (n c : Nat) (x : List Nat) (B : Option Addr) (m d : Nat) (y : List Nat) (w : World) (ha : ArgU w A n c x) (hb : ArgU w B m d y) :
    Calls Try.prog 5 #[.slice A n c, .slice B m d] w (Yes w) := by
  obtain ⟨hn, hc, hcm, rA, _, hx⟩ := ha
  obtain ⟨hm, hd, hdm, rB, _, hy⟩ := hb
  have HN := Lib.hid hn
  have HM := Lib.hid hm
  have HC := Lib.hid hcm
  have HD := Lib.hid hdm
  unfold maxLen at hcm hdm
  clear hn hm
  by_cases g1 : n ≤ 8
  · by_cases g2 : m ≤ 8
    · go_enter Try.func5, Try.ntmps5
      go_wp2_with fail
      refine (awake_core hA hW hO hG _).mono ?_
      rintro e w1 ⟨rfl, bb1⟩
      have rA1 := rA.below bb1
      have rB1 := rB.below bb1
      clear rA rB
      go_wp2_with fail
      refine (h1 A B n m c d x y w1 HN.out HM.out (by omega) (by omega) hc HC.out hd HD.out rA1 rB1 hx hy).mono ?_
      rintro e w2 ⟨v1, p1, rfl, l1, u1, b1, o1, hb⟩
      have bb2 := below_go bb1 hb
      have rA2 := rA1.below hb
      have rB2 := rB1.below hb
      obtain ⟨P1, e1, rfl, _, q1, r1, _⟩ := own_slice o1
      have L1 := Lib.hid l1
      have B1 := Lib.hid b1
      clear hb o1 rA1 rB1 bb1 l1 b1
      go_wp2_with fail
      refine (and_any A B n m c d x y w2 HN.out HM.out (by omega) (by omega) rA2 rB2 hx hy).mono ?_
      rintro e w3 ⟨v2, p2, rfl, l2, u2, b2, o2, hb⟩
      have bb3 := below_go bb2 hb
      have rA3 := rA2.below hb
      have rB3 := rB2.below hb
      have r1 := Row.below (w := w2) r1 hb
      have ep := made_same l2 L1.out u2 u1 b2 B1.out (fun j _ => rfl)
      subst ep
      obtain ⟨P2, e2, rfl, _, _, r2, _⟩ := own_slice o2
      unfold maxLen at q1
      clear hb o2 L1 l2 u1 u2 B1 b2 rA2 rB2 bb2
      go_wp2_with fail
      refine (sameW_any P1 P2 _ _ e1 e2 p2 p2 w3 rfl rfl (by omega) r1 r2).mono ?_
      rintro e w4 ⟨rfl, q, hq⟩
      have bb4 := below_drawn hq bb3
      have rA4 := Row.drawn hq rA3
      have rB4 := Row.drawn hq rB3
      rw [show decide (p2 = p2) = true by simp]
      clear hq r1 r2 rA3 rB3 bb3 q1
      go_wp2_with fail
      refine (h2 A B n m c d x y w4 HN.out HM.out (by omega) (by omega) hc HC.out hd HD.out rA4 rB4 hx hy).mono ?_
      rintro e w5 ⟨v1, p1, rfl, l1, u1, b1, o1, hb⟩
      have bb5 := below_go bb4 hb
      have rA5 := rA4.below hb
      have rB5 := rB4.below hb
      obtain ⟨P1, e1, rfl, _, q1, r1, _⟩ := own_slice o1
      have L1 := Lib.hid l1
      have B1 := Lib.hid b1
      clear hb o1 rA4 rB4 bb4 l1 b1
      go_wp2_with fail
      refine (or_any A B n m c d x y w5 HN.out HM.out (by omega) (by omega) rA5 rB5 hx hy).mono ?_
      rintro e w6 ⟨v2, p2, rfl, l2, u2, b2, o2, hb⟩
      have bb6 := below_go bb5 hb
      have rA6 := rA5.below hb
      have rB6 := rB5.below hb
      have r1 := Row.below (w := w5) r1 hb
      have ep := made_same l2 L1.out u2 u1 b2 B1.out (fun j _ => rfl)
      subst ep
      obtain ⟨P2, e2, rfl, _, _, r2, _⟩ := own_slice o2
      unfold maxLen at q1
      clear hb o2 L1 l2 u1 u2 B1 b2 rA5 rB5 bb5
      go_wp2_with fail
      refine (sameW_any P1 P2 _ _ e1 e2 p2 p2 w6 rfl rfl (by omega) r1 r2).mono ?_
      rintro e w7 ⟨rfl, q, hq⟩
      have bb7 := below_drawn hq bb6
      have rA7 := Row.drawn hq rA6
      have rB7 := Row.drawn hq rB6
      rw [show decide (p2 = p2) = true by simp]
      clear hq r1 r2 rA6 rB6 bb6 q1
      go_wp2_with fail
      go_ret
      exact Yes.of bb7
    · go_enter Try.func5, Try.ntmps5
      go_wp2_with fail
      refine (awake_core hA hW hO hG _).mono ?_
      rintro e w1 ⟨rfl, hb1⟩
      go_wp2_with fail
      go_ret
      exact Yes.of hb1
  · go_enter Try.func5, Try.ntmps5
    go_wp2_with fail
    refine (awake_core hA hW hO hG _).mono ?_
    rintro e w1 ⟨rfl, hb1⟩
    go_wp2_with fail
    go_ret
    exact Yes.of hb1

end Go.Proofs.Ytndmgpgdkekbhaa
