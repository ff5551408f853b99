/-
  Core of the statement VecBits (over the contracts of package vec).
-/
import Derived.Test.YtndmgpgdkekbhaaVl1
import Derived.Deep.DeepCutAuto
namespace Go.Proofs.Ytndmgpgdkekbhaa
open Go.RowKit

def BitsRel (n : Nat) (w2 : World) (i : Value) (wr : World) : Prop := ∃ k : Int, -1 ≤ k ∧ k ≤ 64 * (n : Int) + 1 ∧ i = .int .i64 k ∧ Below w2.heap.size w2 wr
def inB (n : Nat) (i k : Int) : Bool := decide (k = i ∧ 0 ≤ k ∧ k < 64 * (n : Int))
theorem set_get {x p : List Nat} {m : Nat} {i : Int} (hm : x.length = m) (h : ∀ j, bt p j = (decide (j < 64 * m) && (bt x j || decide ((j : Int) = i)))) (k : Int) : btI p k = (inB m i k || btI x k) := by
  unfold btI inB
  by_cases h0 : 0 ≤ k
  · obtain ⟨j, rfl⟩ := Int.eq_ofNat_of_zero_le h0
    rw [decide_eq_true h0, Bool.true_and, Bool.true_and, Int.toNat_natCast, h]
    by_cases hj : j < 64 * m
    · rw [decide_eq_true hj, Bool.true_and, Bool.or_comm]
      congr 1
      simp only [decide_eq_decide]
      omega
    · rw [decide_eq_false hj, Bool.false_and, bt_out (by omega), Bool.or_false, decide_eq_false (by omega)]
  · rw [decide_eq_false h0, Bool.false_and, Bool.false_and, Bool.or_false, decide_eq_false (by omega)]

set_option maxRecDepth 100000 in
set_option maxHeartbeats 1600000 in
theorem vecBits_core (hA : Op2OK 20 sumB) (hW : WordsOK) (hO : OnesOK) (hG : GetOK) (hS : SetOK) (A : Option Addr) (m c : Nat) (x : List Nat) (i : Int) (w : World) (ha : ArgU w A m c x) (hn : (Lit.int .i64 i).wf = true) :
    Calls Try.prog 7 #[.slice A m c, .int .i64 i] w (Yes w) := by
  obtain ⟨hm, hc, hcm, rA, _, hx⟩ := ha
  have HM := Lib.hid hm
  have HCM := Lib.hid hcm
  have HI : Hid (I64 i) := bounds_i64 hn
  unfold maxLen at hcm
  clear hm hn
  go_enter Try.func7, Try.ntmps7
  go_wp2_with fail
  refine (awake_core hA hW hO hG _).mono ?_
  rintro e w1 ⟨rfl, bb1⟩
  have rA1 := rA.below bb1
  clear rA
  by_cases h8 : m ≤ 8
  · go_wp2_with fail
    refine (hS A m c i x w1 HM.out (by omega) hc HCM.out HI.out rA1 hx).mono ?_
    rintro e w2 ⟨v, p, rfl, hp, wp, bp, op, hb⟩
    have bb2 := below_go bb1 hb
    have rA2 := rA1.below hb
    rw [hp] at op
    obtain ⟨P, cP, rfl, hcP, hcPm, rP, _⟩ := own_slice op
    have HP := Lib.hid hp
    have HCP := Lib.hid hcPm
    have HSG := Lib.hid (set_get HM.out bp)
    clear hb bb1 rA1 op bp hp hcPm
    go_wp2_with fail
    go_loopw [6] (fun i wr => BitsRel m w2 i wr) (fun i _ => (64 * (m : Int) + 2 - intOf i).toNat)
    case atStart => exact ⟨-1, by omega, by omega, rfl, Below.refl _ _⟩
    case round =>
      obtain ⟨k, hk1, hk2, rfl, hbw⟩ := hrel
      have HK : Hid (I64 k) := ⟨by omega, by omega⟩
      by_cases hlt : k ≤ 64 * (m : Int)
      · have R : ∀ w9, Below wr.heap.size wr w9 → BitsRel m w2 (.int .i64 (k + 1)) w9 := fun w9 h9 => ⟨k + 1, by omega, by omega, rfl, below_go hbw h9⟩
        have HR := Lib.hid R
        have rA3 := rA2.below hbw
        have rP3 := rP.below hbw
        clear R hbw rA2 rP
        go_upto_region 11 with (fail)
        go_cut [7] (fun v wx => v = .bool (inB m i k) ∧ wx = wr)
        case first =>
          by_cases e1 : k = i
          · by_cases e2 : 0 ≤ k
            · by_cases e3 : k < 64 * (m : Int)
              · have HE : Hid (inB m i k = true) := by show _ = _; unfold inB; exact decide_eq_true ⟨e1, e2, e3⟩
                subst e1
                go_wp2_with fail
                all_goals (go_meet; exact ⟨by rw [HE.out]; try simp; try omega, rfl⟩)
              · have HE : Hid (inB m i k = false) := by show _ = _; unfold inB; exact decide_eq_false (by omega)
                subst e1
                go_wp2_with fail
                all_goals (go_meet; exact ⟨by rw [HE.out]; try simp; try omega, rfl⟩)
            · have HE : Hid (inB m i k = false) := by show _ = _; unfold inB; exact decide_eq_false (by omega)
              subst e1
              go_wp2_with fail
              all_goals (go_meet; exact ⟨by rw [HE.out]; try simp; try omega, rfl⟩)
          · have HE : Hid (inB m i k = false) := by show _ = _; unfold inB; exact decide_eq_false (by omega)
            have hz : (k == i) = false := by simpa using e1
            clear e1
            go_wp2_with fail
            all_goals (go_meet; exact ⟨by rw [HE.out]; try simp; try omega, rfl⟩)
        case rest =>
          obtain ⟨rfl, hwc⟩ := hcut
          have hwc' := hwc.symm
          subst hwc'
          go_wp2_with fail
          refine (hG A m c k x wr HM.out (by omega) hc HCM.out HK.out rA3 hx).mono ?_
          rintro e w4 ⟨rfl, hb4⟩
          have rA4 := rA3.below hb4
          have rP4 := rP3.below hb4
          clear rA3 rP3
          go_wp2_with fail
          refine (get_any A m c k x w4 HM.out HK.out rA4 hx).mono ?_
          rintro e w5 ⟨rfl, hw5⟩
          subst hw5
          have e7 := HSG.out k
          obtain ⟨z, hz⟩ : ∃ z, btI p k = z := ⟨_, rfl⟩
          have HZ := Lib.hid hz
          rw [hz] at e7
          clear hz
          cases hin : inB m i k with
          | true =>
            rw [hin, Bool.true_or] at e7
            subst e7
            clear hin
            generalize btI x k = bx at *
            go_wp2_with fail
            refine (hG P m cP k p w4 HP.out (by omega) hcP HCP.out HK.out rP4 wp).mono ?_
            rintro e w6 ⟨rfl, hb6⟩
            rw [HZ.out]
            have RR := HR.out w6 (below_go hb4 hb6)
            clear hb4 hb6 rA4 rP4
            go_wp2_with fail
            go_roundw
            case rel => first | exact RR | ((repeat apply Exists.intro); exact ⟨RR, rfl⟩)
            case measure => simp [intOf]; omega
          | false =>
            rw [hin, Bool.false_or] at e7
            subst e7
            clear hin
            obtain ⟨bx, hbx⟩ : ∃ z, btI x k = z := ⟨_, rfl⟩
            have HX := Lib.hid hbx
            rw [hbx] at HZ ⊢
            clear hbx
            go_wp2_with fail
            refine (hG P m cP k p w4 HP.out (by omega) hcP HCP.out HK.out rP4 wp).mono ?_
            rintro e w6 ⟨rfl, hb6⟩
            rw [HZ.out]
            have RR := HR.out w6 (below_go hb4 hb6)
            have rA6 := rA4.below hb6
            clear hb4 hb6 rA4 rP4
            go_wp2_with fail
            refine (get_any A m c k x w6 HM.out HK.out rA6 hx).mono ?_
            rintro e w7 ⟨rfl, hw7⟩
            subst hw7
            rw [HX.out]
            go_wp2_with fail
            go_roundw
            case rel => first | exact RR | ((repeat apply Exists.intro); exact ⟨RR, rfl⟩)
            case measure => simp [intOf]; omega
      · have rA3 := rA2.below hbw
        have bb3 := below_go bb2 hbw
        clear rA2 rP hbw bb2
        go_wp2_with fail
        refine (hG A m c i x wr HM.out (by omega) hc HCM.out HI.out rA3 hx).mono ?_
        rintro e w4 ⟨rfl, hb4⟩
        have rA4 := rA3.below hb4
        have bb4 := below_go bb3 hb4
        clear rA3 bb3 hb4
        go_wp2_with fail
        refine (get_any A m c i x w4 HM.out HI.out rA4 hx).mono ?_
        rintro e w5 ⟨rfl, hw5⟩
        subst hw5
        generalize btI x i = bx at *
        go_wp2_with fail
        go_ret
        exact Yes.of bb4
  · go_wp2_with fail
    go_ret
    exact Yes.of bb1

end Go.Proofs.Ytndmgpgdkekbhaa
