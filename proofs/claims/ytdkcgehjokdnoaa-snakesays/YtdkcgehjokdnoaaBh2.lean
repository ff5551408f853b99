/-
  Contract of the reference's Len.
-/
import Derived.Test.YtdkcgehjokdnoaaBh1
namespace Go.Proofs.Ytdkcgehjokdnoaa
open Go.RowKit

theorem lx_lcs (a b : List Int) : lx a b 0 0 = lcs a b := by simp [lx]

end Go.Proofs.Ytdkcgehjokdnoaa
