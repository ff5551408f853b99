/-
  Words and contracts that the proof leans on.
-/
import Derived.Test.YtncbhnmhaoblaaaM6
import Derived.Deep.QuietTactic
import Derived.BigQuiet
namespace Go.Proofs.Ytncbhnmhaoblaaa
open Go.RowKit

/-- How wide. -/
def wid (n : Int) : Nat := if n < 0 then 0 else if 1048576 < n then 1048576 else n.toNat
def wdsVc3 (n : Int) : Nat := (wid n + 63) / 64
theorem wid_le (n : Int) : wid n ≤ 1048576 := by unfold wid; split; omega; split <;> omega
theorem wds_wid (n : Int) : wid n ≤ 64 * wdsVc3 n := by unfold wdsVc3; omega
theorem wds_le (n : Int) : wdsVc3 n ≤ 16384 := by have := wid_le n; unfold wdsVc3; omega

theorem width_any (n : Int) (w : World) : Calls Try.prog 44 #[.int .i64 n] w fun e w' => e = .returned (.int .i64 (wid n : Nat)) ∧ w = w' := by
  obtain ⟨r, hr⟩ : ∃ r, wid n = r := ⟨_, rfl⟩
  rw [hr]
  unfold wid at hr
  by_cases h0 : n < 0
  · rw [if_pos h0] at hr
    subst hr
    go_enter Try.func44, Try.ntmps44
    go_wp2_with fail
    go_ret
    exact ⟨rfl, rfl⟩
  · rw [if_neg h0] at hr
    by_cases h1 : 1048576 < n
    · rw [if_pos h1] at hr
      subst hr
      go_enter Try.func44, Try.ntmps44
      go_wp2_with fail
      go_ret
      exact ⟨rfl, rfl⟩
    · rw [if_neg h1] at hr
      obtain ⟨k, rfl⟩ := Int.eq_ofNat_of_zero_le (show 0 ≤ n by omega)
      rw [Int.toNat_natCast] at hr
      subst hr
      go_enter Try.func44, Try.ntmps44
      go_wp2_with fail
      go_ret
      exact ⟨rfl, rfl⟩

theorem words_any (n : Int) (w : World) : Calls Try.prog 32 #[.int .i64 n] w fun e w' => e = .returned (.int .i64 (wdsVc3 n : Nat)) ∧ w = w' := by
  have h := wid_le n
  have HE : Hid ((((wid n : Nat) : Int) + 63) / 64 = (wdsVc3 n : Nat)) := by show _ = _; unfold wdsVc3; omega
  go_enter Try.func32, Try.ntmps32
  go_wp2_with fail
  refine (width_any n _).mono ?_
  rintro e w' ⟨rfl, rfl⟩
  generalize wid n = N at *
  go_wp2_with fail
  go_ret
  exact ⟨ret_int HE.out, rfl⟩

theorem btI_nat (x : List Nat) (i : Nat) : btI x (i : Int) = bt x i := by unfold btI; rw [decide_eq_true (by omega), Bool.true_and]; rfl

end Go.Proofs.Ytncbhnmhaoblaaa
