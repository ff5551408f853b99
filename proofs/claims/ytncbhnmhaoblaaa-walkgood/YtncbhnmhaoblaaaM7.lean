/-
  Words and contracts that the proof leans on.
-/
import Derived.Test.YtncbhnmhaoblaaaM6
import Derived.Deep.QuietTactic
import Derived.BigQuiet
namespace Go.Proofs.Ytncbhnmhaoblaaa
open Go.RowKit

/-- How wide. -/
def wid (n : Int) : Nat := if n < 0 then 0 else if 1048576 < n then 1048576 else n.toNat
def wdsVc3 (n : Int) : Nat := (wid n + 63) / 64
theorem wid_le (n : Int) : wid n ≤ 1048576 := by unfold wid; split; omega; split <;> omega
theorem wds_wid (n : Int) : wid n ≤ 64 * wdsVc3 n := by unfold wdsVc3; omega
theorem wds_le (n : Int) : wdsVc3 n ≤ 16384 := by have := wid_le n; unfold wdsVc3; omega

theorem btI_nat (x : List Nat) (i : Nat) : btI x (i : Int) = bt x i := by unfold btI; rw [decide_eq_true (by omega), Bool.true_and]; rfl

end Go.Proofs.Ytncbhnmhaoblaaa
