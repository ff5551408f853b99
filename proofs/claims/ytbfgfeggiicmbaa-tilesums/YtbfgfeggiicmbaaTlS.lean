/-
  The reference's Look, Ones.
-/
import Derived.Test.YtbfgfeggiicmbaaTlR
namespace Go.Proofs.Ytbfgfeggiicmbaa
open Go.RowKit

theorem add_num {K d k : Nat} (hk : k < 3) (h : K < 2 ^ k) (hd : d ≤ 1) : wrap64 ((K : Int) + wrap64 ((d : Int) * 2 ^ k)) = ((K + d * 2 ^ k : Nat) : Int) := by
  have : ∀ k : Nat, k < 3 → ∀ K : Nat, K < 2 ^ k → ∀ d : Nat, d < 2 → wrap64 ((K : Int) + wrap64 ((d : Int) * 2 ^ k)) = ((K + d * 2 ^ k : Nat) : Int) := by decide +kernel
  exact this k hk K h d (by omega)

def OnR (x : Nat) (w : World) (n i : Value) (wr : World) : Prop := ∃ k : Nat, k ≤ 62 ∧ i = .int .i64 (k : Int) ∧ n = .int .i64 (sumN (bitN x) k : Nat) ∧ wr = w
theorem sumN_le (x : Nat) : ∀ k, sumN (bitN x) k ≤ k
  | 0 => Nat.le_refl _
  | k + 1 => by have := sumN_le x k; have := bitN_le x k; rw [sumN]; omega
set_option maxRecDepth 100000 in
set_option maxHeartbeats 1600000 in
theorem ones_any (x : Nat) (w : World) : Calls Try.prog 16 #[.int .i64 (x : Int)] w fun e w' => e = .returned (.int .i64 (ones x : Nat)) ∧ w = w' := by
  unfold ones
  go_enter Try.func16, Try.ntmps16
  go_wp2_with fail
  go_loopw [3, 4] (fun n i wr => OnR x w n i wr) (fun _ i _ => 62 - (intOf i).toNat)
  case atStart => exact ⟨0, Nat.zero_le _, rfl, rfl, rfl⟩
  case round =>
    obtain ⟨k, hk, rfl, rfl, rfl⟩ := hrel
    by_cases hlt : k < 62
    · have e1 := and_bitN x k
      have b1 := bitN_le x k
      have s1 := sumN_le x k
      have HV : Hid (sumN (bitN x) (k + 1) = sumN (bitN x) k + bitN x k) := rfl
      generalize sumN (bitN x) k = s at *
      generalize bitN x k = b at *
      go_wp2_with fail
      go_roundw
      case rel => exact ⟨k + 1, hlt, by go_num, by rw [HV.out]; go_num, rfl⟩
      case measure => simp [intOf]; omega
    · obtain rfl : k = 62 := by omega
      go_wp2_with fail
      go_ret
      exact ⟨rfl, rfl⟩

def RlMade (t : Nat) (eq top left : Int) (w : World) (e : Ending) (w' : World) : Prop := e = .returned (lookV t eq top left) ∧ Below w.heap.size w w'
def RlR (S : Nat → Nat → Nat) (f g : Nat → Nat) (t : Nat) (w : World) (b r i : Value) (wr : World) : Prop :=
  ∃ c : Nat, 1 ≤ c ∧ c ≤ t + 1 ∧ i = .int .i64 (c : Int) ∧ b = .int .i64 (num f (c - 1) : Nat) ∧ r = .int .i64 (num g (c - 1) : Nat) ∧ SqR S t (FlB t 0) w wr

set_option maxRecDepth 100000 in
set_option maxHeartbeats 1600000 in
theorem rlook_any (t : Nat) (eq top left : Int) (w : World) (ht : 1 ≤ t ∧ t ≤ 3) :
    Calls Try.prog 13 #[.int .i64 (t : Int), .int .i64 eq, .int .i64 top, .int .i64 left] w (RlMade t eq top left w) := by
  obtain ⟨X, hX⟩ : ∃ X, t * t = X := ⟨_, rfl⟩
  have eX : (t : Int) * (t : Int) = (X : Int) := by rw [← hX]; simp
  have hX9 : X ≤ 9 := by rw [← hX]; exact sq_side ht.2
  have HW : Hid (∀ n : Nat, n ≤ 9 → wrap64 (2 ^ n) = ((2 ^ n : Nat) : Int)) := by intro n hn; exact (by decide +kernel : ∀ n : Nat, n ≤ 9 → wrap64 (2 ^ n) = ((2 ^ n : Nat) : Int)) n hn
  have hw1 := HW.out X hX9
  have hw2 := HW.out t (by omega)
  clear HW
  have HN := Lib.hid (fun h => lookV_no (t := t) (eq := eq) (top := top) (left := left) h)
  obtain ⟨M, hM⟩ : ∃ M : Nat, 2 ^ X = M := ⟨_, rfl⟩
  obtain ⟨N, hN⟩ : ∃ N : Nat, 2 ^ t = N := ⟨_, rfl⟩
  rw [hM] at hw1
  rw [hN] at hw2
  have HI : Hid (inSq t eq top left ↔ (0 ≤ eq ∧ eq < (M : Int)) ∧ (0 ≤ top ∧ top < (N : Int)) ∧ (0 ≤ left ∧ left < (N : Int))) := by show _ ↔ _; unfold inSq; rw [hX, hM, hN]
  have HQ : Hid (¬ ((0 ≤ eq ∧ eq < (M : Int)) ∧ (0 ≤ top ∧ top < (N : Int)) ∧ (0 ≤ left ∧ left < (N : Int))) → RlMade t eq top left w (.returned (.tuple #[.int .i64 0, .int .i64 0, .int .i64 1])) w) := fun h => ⟨by rw [HN.out (fun h' => h (HI.out.1 h'))], Below.refl _ _⟩
  by_cases a1 : 0 ≤ eq
  · by_cases a2 : eq < (M : Int)
    · by_cases b1 : 0 ≤ top
      · by_cases b2 : top < (N : Int)
        · by_cases c1 : 0 ≤ left
          · by_cases c2 : left < (N : Int)
            · have hin := HI.out.2 ⟨⟨a1, a2⟩, ⟨b1, b2⟩, c1, c2⟩
              obtain ⟨E, rfl⟩ := Int.eq_ofNat_of_zero_le a1
              obtain ⟨T, rfl⟩ := Int.eq_ofNat_of_zero_le b1
              obtain ⟨L, rfl⟩ := Int.eq_ofNat_of_zero_le c1
              have HL := Lib.hid (lookV_yes hin)
              have HC := Lib.hid (square_any t E T L w ht)
              have HH := Lib.hid (sqN_h t E T L)
              have HV := Lib.hid (sqN_v t E T L)
              have HB := Lib.hid (sqN_le t E T L)
              have HF : Hid (∀ c, botF t E T L c = sqN t E T L t (c + 1) - sqN t E T L t c) := fun c => rfl
              have HG : Hid (∀ c, rgtF t E T L c = sqN t E T L (c + 1) t - sqN t E T L c t) := fun c => rfl
              have HF1 := Lib.hid (num_lt (botF_le t E T L))
              have HG1 := Lib.hid (num_lt (rgtF_le t E T L))
              unfold botN rgtN at HL
              generalize botF t E T L = f at *
              generalize rgtF t E T L = g at *
              generalize sqN t E T L = S at *
              clear HN HI HQ hin hX hM hN
              go_enter Try.func13, Try.ntmps13
              go_wp2_with fail
              refine HC.out.mono ?_
              rintro e w1 ⟨rfl, hS⟩
              clear HC
              go_wp2_with fail
              go_loopw [12, 13, 14] (fun b r i wr => RlR S f g t w b r i wr) (fun _ _ i _ => t + 1 - (intOf i).toNat)
              case atStart => exact ⟨1, Nat.le_refl _, by omega, rfl, rfl, rfl, hS⟩
              case round =>
                clear hS
                obtain ⟨c, hc1, hc, rfl, rfl, rfl, hS⟩ := hrel
                by_cases hlt : c < t + 1
                · obtain ⟨k, rfl⟩ : ∃ k, c = k + 1 := ⟨c - 1, by omega⟩
                  rw [Nat.add_sub_cancel]
                  have t0 := hS.top (r := t) (by omega)
                  have t1 := hS.top (r := k) (by omega)
                  have t2 := hS.top (r := k + 1) (by omega)
                  have p1 := hS.cell (r := t) (c := k + 1) (by omega) (by omega) (by unfold FlB; omega)
                  have p2 := hS.cell (r := t) (c := k) (by omega) (by omega) (by unfold FlB; omega)
                  have p3 := hS.cell (r := k + 1) (c := t) (by omega) (by omega) (by unfold FlB; omega)
                  have p4 := hS.cell (r := k) (c := t) (by omega) (by omega) (by unfold FlB; omega)
                  have l1 := HH.out t k
                  have l2 := HV.out k t
                  have l3 := HB.out t (k + 1)
                  have l4 := HB.out (k + 1) t
                  have n1 := HF1.out k
                  have n2 := HG1.out k
                  obtain ⟨d1, hd1⟩ : ∃ d, S t (k + 1) - S t k = d := ⟨_, rfl⟩
                  obtain ⟨d2, hd2⟩ : ∃ d, S (k + 1) t - S k t = d := ⟨_, rfl⟩
                  have E1 : Hid (num f (k + 1) = num f k + d1 * 2 ^ k) := by show _ = _; rw [num, HF.out, hd1]
                  have E2 : Hid (num g (k + 1) = num g k + d2 * 2 ^ k) := by show _ = _; rw [num, HG.out, hd2]
                  have O1 := Lib.hid (add_num (K := num f k) (d := d1) (k := k) (by omega) n1 (by omega))
                  have O2 := Lib.hid (add_num (K := num g k) (d := d2) (k := k) (by omega) n2 (by omega))
                  have z1 : (S t (k + 1) : Int) - (S t k : Int) = (d1 : Int) := by omega
                  have z2 : (S (k + 1) t : Int) - (S k t : Int) = (d2 : Int) := by omega
                  have m1 : d1 ≤ 1 := by omega
                  have m2 : d2 ≤ 1 := by omega
                  generalize num f k = N1 at *
                  generalize num g k = N2 at *
                  generalize S t (k + 1) = A at *
                  generalize S t k = B at *
                  generalize S (k + 1) t = C at *
                  generalize S k t = D at *
                  clear hd1 hd2 l1 l2 n1 n2
                  go_wp2_with fail
                  go_region
                  go_wp2_with fail
                  go_region
                  go_wp2_with fail
                  go_roundw
                  case rel => exact ⟨k + 1 + 1, by omega, by omega, by go_num, by rw [Nat.add_sub_cancel, E1.out]; exact congrArg (Value.int .i64) O1.out, by rw [Nat.add_sub_cancel, E2.out]; exact congrArg (Value.int .i64) O2.out, hS.drew.drew⟩
                  case measure => simp [intOf]; omega
                · obtain rfl : c = t + 1 := by omega
                  rw [Nat.add_sub_cancel]
                  have HQ : Hid (RlMade t (E : Int) (T : Int) (L : Int) w (.returned (.tuple #[.int .i64 (num f t : Nat), .int .i64 (num g t : Nat), .int .i64 0])) wr) := ⟨by rw [HL.out], hS.2.2⟩
                  clear hS HL
                  go_wp2_with fail
                  go_ret3
                  exact HQ.out
            · have HR := Lib.hid (HQ.out (fun h => c2 h.2.2.2))
              clear HN HI HQ hX hM hN
              go_enter Try.func13, Try.ntmps13
              go_wp2_with fail
              go_ret3
              exact HR.out
          · have HR := Lib.hid (HQ.out (fun h => c1 h.2.2.1))
            clear HN HI HQ hX hM hN
            go_enter Try.func13, Try.ntmps13
            go_wp2_with fail
            go_ret3
            exact HR.out
        · have HR := Lib.hid (HQ.out (fun h => b2 h.2.1.2))
          clear HN HI HQ hX hM hN
          go_enter Try.func13, Try.ntmps13
          go_wp2_with fail
          go_ret3
          exact HR.out
      · have HR := Lib.hid (HQ.out (fun h => b1 h.2.1.1))
        clear HN HI HQ hX hM hN
        go_enter Try.func13, Try.ntmps13
        go_wp2_with fail
        go_ret3
        exact HR.out
    · have HR := Lib.hid (HQ.out (fun h => a2 h.1.2))
      clear HN HI HQ hX hM hN
      go_enter Try.func13, Try.ntmps13
      go_wp2_with fail
      go_ret3
      exact HR.out
  · have HR := Lib.hid (HQ.out (fun h => a1 h.1.1))
    clear HN HI HQ hX hM hN
    go_enter Try.func13, Try.ntmps13
    go_wp2_with fail
    go_ret3
    exact HR.out

end Go.Proofs.Ytbfgfeggiicmbaa
