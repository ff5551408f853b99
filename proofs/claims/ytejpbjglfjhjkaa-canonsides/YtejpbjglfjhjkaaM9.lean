/-
  Words and contracts that the proof leans on.
-/
import Derived.Test.YtejpbjglfjhjkaaM6
import Derived.Test.YtejpbjglfjhjkaaM2
import Derived.Deep.OwnRows
namespace Go.Proofs.Ytejpbjglfjhjkaa
open Go.RowKit

/-- L of what is behind r and c. -/
def lx (a b : List Int) (r c : Nat) : Nat := lcs (a.drop r) (b.drop c)
/-- The whole table, as it is read. -/
def Table (a b : List Int) (n m T : Nat) (w : World) : Prop :=
  ∀ r, r ≤ n → w.cell? ⟨T, r, none⟩ = some (.slice (some ⟨T + 1 + (n - r), 0, none⟩) (m + 1) (m + 1)) ∧ ∀ c, c ≤ m → w.cell? ⟨T + 1 + (n - r), c, none⟩ = some (.int .i64 (lx a b r c : Nat))
theorem Table.below {a b : List Int} {n m T : Nat} {w w' : World} (h : Table a b n m T w) (hb : Below w.heap.size w w') : Table a b n m T w' := fun r hr =>
  ⟨(hb.cell (p := ⟨T, r, none⟩) (World.block_lt_of_cell? _ _ (h r hr).1)).trans (h r hr).1, fun c hc => (hb.cell (p := ⟨T + 1 + (n - r), c, none⟩) (World.block_lt_of_cell? _ _ ((h r hr).2 c hc))).trans ((h r hr).2 c hc)⟩
end Go.Proofs.Ytejpbjglfjhjkaa
