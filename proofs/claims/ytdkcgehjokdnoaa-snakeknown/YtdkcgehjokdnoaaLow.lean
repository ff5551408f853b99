/-
  Small words for whatever statement.
-/
import Derived.Test.YtdkcgehjokdnoaaStep
namespace Go.Proofs.Ytdkcgehjokdnoaa
open Go.RowKit

/-- An int64. -/
def I64 (n : Int) : Prop := -9223372036854775808 ≤ n ∧ n ≤ 9223372036854775807
theorem i64_small {n : Int} (h : -1000000000 ≤ n ∧ n ≤ 1000000000) : I64 n := ⟨by omega, by omega⟩
theorem Yes.of {w w' : World} (h : Below w.heap.size w w') : Yes w (.returned (.bool true)) w' := ⟨rfl, h⟩
theorem Row.drawn {w w' : World} {A : Option Addr} {us : List Value} {q : Nat} (hq : w' = w.drewN q) (h : Row w A us) : Row w' A us := by subst hq; exact h
theorem below_drawn {w0 w w' : World} {B q : Nat} (hq : w' = w.drewN q) (h : Below B w0 w) : Below B w0 w' := by subst hq; exact below_drewN h q
theorem below_go {w w1 w2 : World} (h : Below w.heap.size w w1) (h2 : Below w1.heap.size w1 w2) : Below w.heap.size w w2 := h.trans (h2.mono h.size)
theorem below_a1 (w : World) (o : Obj) : Below w.heap.size w (w.alloc o) := (Below.refl _ _).alloc (Nat.le_refl _) _

end Go.Proofs.Ytdkcgehjokdnoaa
