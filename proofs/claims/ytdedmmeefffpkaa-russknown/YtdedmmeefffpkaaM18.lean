/-
  Words and contracts that the proof leans on.
-/
import Derived.Test.YtdedmmeefffpkaaM1
import Derived.Test.YtdedmmeefffpkaaM16
import Derived.Test.YtdedmmeefffpkaaM8
import Derived.BigQuiet
namespace Go.Proofs.Ytdedmmeefffpkaa
open Go.RowKit

set_option maxHeartbeats 800000 in
theorem fits_any (x : Int) (n : Nat) (w : World) (hn : n ≤ 9) :
    Calls Try.prog 33 #[.int .i64 x, .int .i64 (n : Int)] w fun e w' => e = .returned (.bool (decide (0 ≤ x ∧ x < ((2 ^ n : Nat) : Int)))) ∧ w = w' := by
  have hw : wrap64 (2 ^ n) = ((2 ^ n : Nat) : Int) := (by decide +kernel : ∀ n : Nat, n ≤ 9 → wrap64 (2 ^ n) = ((2 ^ n : Nat) : Int)) n hn
  obtain ⟨M, hM⟩ : ∃ M : Nat, 2 ^ n = M := ⟨_, rfl⟩
  rw [hM] at hw ⊢
  clear hM
  by_cases h0 : 0 ≤ x
  · by_cases h1 : x < (M : Int)
    · rw [decide_eq_true (show _ ∧ _ from ⟨h0, h1⟩)]
      go_enter Try.func33, Try.ntmps33
      go_wp2_with fail
      go_ret
      exact ⟨rfl, rfl⟩
    · rw [decide_eq_false (fun h => h1 h.2)]
      go_enter Try.func33, Try.ntmps33
      go_wp2_with fail
      go_ret
      exact ⟨rfl, rfl⟩
  · rw [decide_eq_false (fun h => h0 h.1)]
    go_enter Try.func33, Try.ntmps33
    go_wp2_with fail
    go_ret
    exact ⟨rfl, rfl⟩

theorem ret_two {a a' b b' : Int} (h : a = a') (h' : b = b') : Ending.returned (.tuple #[.int .i64 a, .int .i64 b]) = .returned (.tuple #[.int .i64 a', .int .i64 b']) := by rw [h, h']
set_option maxHeartbeats 800000 in
theorem split_any (k t : Nat) (w : World) (hk : k < 2 ^ 30) (ht : 1 ≤ t ∧ t ≤ 3) :
    Calls Try.prog 34 #[.int .i64 (k : Int), .int .i64 (t : Int)] w fun e w' => e = .returned (.tuple #[.int .i64 ((k / 2 ^ t : Nat) : Int), .int .i64 ((k % 2 ^ t : Nat) : Int)]) ∧ ∃ q, w' = w.drewN q := by
  obtain rfl | rfl | rfl : t = 1 ∨ t = 2 ∨ t = 3 := by omega
  · have HE : Hid ((k : Int) / 2 = ((k / 2 ^ 1 : Nat) : Int)) := by show _ = _; omega
    have HM := Lib.hid (and_mask (a := k) (t := 1) (by omega) (by omega))
    go_enter Try.func34, Try.ntmps34
    go_wp2_with fail
    go_quiet (fail)
    go_wp2_with fail
    go_ret2
    exact ⟨ret_two HE.out HM.out, _, rfl⟩
  · have HE : Hid ((k : Int) / 4 = ((k / 2 ^ 2 : Nat) : Int)) := by show _ = _; omega
    have HM := Lib.hid (and_mask (a := k) (t := 2) (by omega) (by omega))
    go_enter Try.func34, Try.ntmps34
    go_wp2_with fail
    go_quiet (fail)
    go_wp2_with fail
    go_ret2
    exact ⟨ret_two HE.out HM.out, _, rfl⟩
  · have HE : Hid ((k : Int) / 8 = ((k / 2 ^ 3 : Nat) : Int)) := by show _ = _; omega
    have HM := Lib.hid (and_mask (a := k) (t := 3) (by omega) (by omega))
    go_enter Try.func34, Try.ntmps34
    go_wp2_with fail
    go_quiet (fail)
    go_wp2_with fail
    go_ret2
    exact ⟨ret_two HE.out HM.out, _, rfl⟩

theorem side_any (b t : Nat) (w : World) (h0 : w.cell? ⟨b, 0, none⟩ = some (.int .i64 (t : Int))) :
    Calls Try.prog 15 #[.pointer (some ⟨b, 0, none⟩)] w fun e w' => e = .returned (.int .i64 (t : Int)) ∧ w = w' := by
  go_enter Try.func15, Try.ntmps15
  go_wp2_with fail
  go_ret
  exact ⟨rfl, rfl⟩

/-- How many squares there are. -/
def sizN (t : Nat) : Nat := 2 ^ (t * t + 2 * t)
theorem sizN_le {t : Nat} (h : t ≤ 3) : sizN t ≤ 32768 := Nat.pow_le_pow_right (n := 2) (by decide) (show t * t + 2 * t ≤ 15 from by have := Nat.mul_le_mul h h; omega)

set_option maxHeartbeats 800000 in
theorem size_any (b t : Nat) (w : World) (ht : 1 ≤ t ∧ t ≤ 3) (h0 : w.cell? ⟨b, 0, none⟩ = some (.int .i64 (t : Int))) :
    Calls Try.prog 38 #[.pointer (some ⟨b, 0, none⟩)] w fun e w' => e = .returned (.int .i64 (sizN t : Nat)) ∧ ∃ q, w' = w.drewN q := by
  obtain rfl | rfl | rfl : t = 1 ∨ t = 2 ∨ t = 3 := by omega
  all_goals
    go_enter Try.func38, Try.ntmps38
    go_wp2_with fail
    go_quiet (fail)
    go_wp2_with fail
    go_ret
    exact ⟨rfl, _, rfl⟩

end Go.Proofs.Ytdedmmeefffpkaa
