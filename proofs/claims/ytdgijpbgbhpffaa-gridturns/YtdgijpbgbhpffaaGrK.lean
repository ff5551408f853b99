/-
  Known values of L.
-/
import Derived.Test.YtdgijpbgbhpffaaLcs
namespace Go.Proofs.Ytdgijpbgbhpffaa
theorem k_awake : lcs [1, 2, 3, 4] [2, 9, 4, 3] = 2 := by simp [lcs]
theorem k_five : lcs [5, 5] [5, 5, 5] = 2 := by simp [lcs]
theorem k_one : lcs [1] [2] = 0 := by simp [lcs]
theorem k_same : lcs [3, -1] [3, -1] = 2 := by simp [lcs]
theorem k_nil (b : List Int) : lcs [] b = 0 := lcs_nil_left b
end Go.Proofs.Ytdgijpbgbhpffaa
