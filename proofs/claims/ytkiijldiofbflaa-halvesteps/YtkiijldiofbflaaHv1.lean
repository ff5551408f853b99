/-
  Contracts of math/bits.Len64, Len; of package halve's Most; of the reference's Bits, MostHalves.
-/
import Derived.Test.YtkiijldiofbflaaHvP
import Derived.Test.YtkiijldiofbflaaLow
import Derived.Test.YtkiijldiofbflaaRefI
import Derived.Test.YtkiijldiofbflaaLayB
namespace Go.Proofs.Ytkiijldiofbflaa
open Go.RowKit

theorem bitLenAux_bl : ∀ (f n : Nat), n < 2 ^ f → Lib.bitLenAux f n = bl n
  | 0, n, h => by rw [show n = 0 by simpa using h, bl_zero]; rfl
  | f + 1, n, h => by
    by_cases h0 : n = 0
    · rw [h0, bl_zero]; rfl
    · rw [bl_pos h0, ← bitLenAux_bl f (n / 2) (by rw [Nat.pow_succ] at h; omega)]
      simp [Lib.bitLenAux, h0]
      try omega
theorem bitLen_bl {n : Nat} (h : n ≤ 1048576) : Lib.bitLen n = bl n := bitLenAux_bl 64 n (Nat.lt_of_le_of_lt h (by decide))

theorem len_bits (n : Nat) (w : World) (hn : n ≤ 1048576) : Calls Try.prog 20 #[.int .u64 (n : Int)] w fun e w' => e = .returned (.int .i64 ((bl n : Nat) : Int)) ∧ w' = w := by
  have h := Any.bits_Len Try.lenL (n : Int) w (by omega) (by omega)
  rw [Int.toNat_natCast, bitLen_bl hn] at h
  exact h

/-- Most, of whatever numbers. -/
def mostI (n m : Int) : Int := if 1 ≤ n ∧ n ≤ 1048576 ∧ 1 ≤ m ∧ m ≤ 1048576 then ((mst n.toNat m.toNat : Nat) : Int) else 0
theorem mostI_nat {n m : Nat} (h : 1 ≤ n ∧ n ≤ 1048576 ∧ 1 ≤ m ∧ m ≤ 1048576) : mostI n m = ((mst n m : Nat) : Int) := by
  unfold mostI
  rw [if_pos (by omega), Int.toNat_natCast, Int.toNat_natCast]
theorem mostI_not {n m : Int} (h : ¬ (1 ≤ n ∧ n ≤ 1048576 ∧ 1 ≤ m ∧ m ≤ 1048576)) : mostI n m = 0 := if_neg h

/-- The head of a round of Bits. -/
def BtRel (n : Nat) (w : World) (k x : Value) (wr : World) : Prop := ∃ a b : Nat, k = .int .i64 (a : Int) ∧ x = .int .i64 (b : Int) ∧ b ≤ 1048576 ∧ Hid (a + bl b = bl n) ∧ a ≤ 21 ∧ wr = w

set_option maxHeartbeats 800000 in
theorem bits_any (n : Nat) (w : World) (hn : n ≤ 1048576) : Calls Try.prog 25 #[.int .i64 (n : Int)] w fun e w' => e = .returned (.int .i64 ((bl n : Nat) : Int)) ∧ w' = w := by
  have HB : Hid (bl n ≤ 21) := bl_le (Nat.lt_of_le_of_lt hn (by decide))
  go_enter Try.func25, Try.ntmps25
  go_wp2_with fail
  go_loopw [3, 4] (fun k x wr => BtRel n w k x wr) (fun _ x _ => (intOf x).toNat)
  case atStart => exact ⟨0, n, rfl, rfl, hn, by show _ = _; rw [Nat.zero_add], Nat.zero_le _, rfl⟩
  case round =>
    obtain ⟨a, b, rfl, rfl, hb, HE, ha, rfl⟩ := hrel
    by_cases h0 : b = 0
    · subst h0
      have HF : Hid (bl n = a) := by show _ = _; rw [← HE.out, bl_zero]; rfl
      go_wp2_with fail
      go_ret
      exact ⟨by rw [HF.out]; rfl, rfl⟩
    · obtain ⟨c, hc⟩ : ∃ c, b / 2 = c := ⟨_, rfl⟩
      have hq : (b : Int) / 2 = (c : Int) := by omega
      have hq2 : (b : Int).tdiv 2 = (c : Int) := by rw [Int.tdiv_eq_ediv_of_nonneg (by omega)]; exact hq
      have R : Hid (BtRel n wr (.int .i64 ((a + 1 : Nat) : Int)) (.int .i64 (c : Int)) wr) := by
        have h := HE.out
        have h' := HB.out
        rw [bl_pos h0, hc] at h
        exact ⟨a + 1, c, rfl, rfl, by omega, by show _ = _; omega, by omega, rfl⟩
      have hcb : c < b := by omega
      clear hc
      go_wp2_with fail
      go_roundw
      case rel => exact R.out
      case measure => simp [intOf]; omega

set_option maxHeartbeats 800000 in
theorem rmost_any (n m : Int) (w : World) (hn : I64 n) (hm : I64 m) : Calls Try.prog 16 #[.int .i64 n, .int .i64 m] w fun e w' => e = .returned (.int .i64 (mostI n m)) ∧ w' = w := by
  unfold I64 at hn hm
  by_cases h : 1 ≤ n ∧ n ≤ 1048576 ∧ 1 ≤ m ∧ m ≤ 1048576
  · obtain ⟨N, rfl⟩ := Int.eq_ofNat_of_zero_le (show 0 ≤ n by omega)
    obtain ⟨M, rfl⟩ := Int.eq_ofNat_of_zero_le (show 0 ≤ m by omega)
    have HE := Lib.hid (mostI_nat (n := N) (m := M) (by omega))
    have HB : Hid (bl N ≤ 21) := bl_le (Nat.lt_of_le_of_lt (show N ≤ 1048576 by omega) (by decide))
    have hb := HB.out
    have HC := Lib.hid (bits_any N w (by omega))
    obtain ⟨K, hK⟩ : ∃ K, mst N M = K := ⟨_, rfl⟩
    have hKl : K ≤ 1048576 * 2097173 := by rw [← hK]; exact mst_le (by omega) (by omega)
    rw [hK] at HE
    unfold mst at hK
    have hmul : (M : Int) * (2 * (N : Int) + ((bl N : Nat) : Int)) = (K : Int) := by rw [← hK]; simp
    clear hK
    generalize bl N = L at *
    go_enter Try.func16, Try.ntmps16
    go_wp2_with fail
    refine HC.out.mono ?_
    rintro e w1 ⟨rfl, rfl⟩
    clear HC
    go_wp2_with fail
    go_ret
    exact ⟨by rw [HE.out]; rfl, rfl⟩
  · have HE := Lib.hid (mostI_not h)
    go_enter Try.func16, Try.ntmps16
    by_cases h1 : n < 1
    · go_wp2_with fail
      go_ret
      exact ⟨by rw [HE.out]; rfl, rfl⟩
    by_cases h2 : m < 1
    · go_wp2_with fail
      go_ret
      exact ⟨by rw [HE.out]; rfl, rfl⟩
    by_cases h3 : 1048576 < n
    · go_wp2_with fail
      go_ret
      exact ⟨by rw [HE.out]; rfl, rfl⟩
    · have h4 : 1048576 < m := by omega
      go_wp2_with fail
      go_ret
      exact ⟨by rw [HE.out]; rfl, rfl⟩

set_option maxHeartbeats 800000 in
theorem most_any (n m : Int) (w : World) (hn : I64 n) (hm : I64 m) : Calls Try.prog 10 #[.int .i64 n, .int .i64 m] w fun e w' => e = .returned (.int .i64 (mostI n m)) ∧ w' = w := by
  unfold I64 at hn hm
  by_cases h : 1 ≤ n ∧ n ≤ 1048576 ∧ 1 ≤ m ∧ m ≤ 1048576
  · obtain ⟨N, rfl⟩ := Int.eq_ofNat_of_zero_le (show 0 ≤ n by omega)
    obtain ⟨M, rfl⟩ := Int.eq_ofNat_of_zero_le (show 0 ≤ m by omega)
    have HE := Lib.hid (mostI_nat (n := N) (m := M) (by omega))
    have HB : Hid (bl N ≤ 21) := bl_le (Nat.lt_of_le_of_lt (show N ≤ 1048576 by omega) (by decide))
    have hb := HB.out
    have HC := Lib.hid (len_bits N w (by omega))
    obtain ⟨K, hK⟩ : ∃ K, mst N M = K := ⟨_, rfl⟩
    have hKl : K ≤ 1048576 * 2097173 := by rw [← hK]; exact mst_le (by omega) (by omega)
    rw [hK] at HE
    unfold mst at hK
    have hmul : (M : Int) * (2 * (N : Int) + ((bl N : Nat) : Int)) = (K : Int) := by rw [← hK]; simp
    clear hK
    generalize bl N = L at *
    go_enter Try.func10, Try.ntmps10
    go_wp2_with fail
    refine HC.out.mono ?_
    rintro e w1 ⟨rfl, rfl⟩
    clear HC
    go_wp2_with fail
    go_ret
    exact ⟨by rw [HE.out]; rfl, rfl⟩
  · have HE := Lib.hid (mostI_not h)
    go_enter Try.func10, Try.ntmps10
    by_cases h1 : n < 1
    · go_wp2_with fail
      go_ret
      exact ⟨by rw [HE.out]; rfl, rfl⟩
    by_cases h3 : 1048576 < n
    · go_wp2_with fail
      go_ret
      exact ⟨by rw [HE.out]; rfl, rfl⟩
    by_cases h2 : m < 1
    · go_wp2_with fail
      go_ret
      exact ⟨by rw [HE.out]; rfl, rfl⟩
    · have h4 : 1048576 < m := by omega
      go_wp2_with fail
      go_ret
      exact ⟨by rw [HE.out]; rfl, rfl⟩

end Go.Proofs.Ytkiijldiofbflaa
