/-
  The reference's And on words.
-/
import Derived.Test.YthmfolekohomiaaVc3
import Derived.Deep.DeepCutAuto
namespace Go.Proofs.Ythmfolekohomiaa
open Go.RowKit

/-- The carry into bit i. -/
def car (a b : Nat → Bool) : Nat → Bool
  | 0 => false
  | i + 1 => a i && b i || a i && car a b i || b i && car a b i
/-- What is lent to bit i. -/
def bor (a b : Nat → Bool) : Nat → Bool
  | 0 => false
  | i + 1 => !a i && b i || !a i && bor a b i || b i && bor a b i
def sumB (x y : List Nat) (j : Nat) : Bool := (bt x j != bt y j) != car (bt x) (bt y) j
def difB (x y : List Nat) (j : Nat) : Bool := (bt x j != bt y j) != bor (bt x) (bt y) j

def CarRel (N : Nat) (g cr : Nat → Bool) (w : World) (c i : Value) (wr : World) : Prop :=
  ∃ k : Nat, k ≤ N ∧ i = .int .i64 (k : Int) ∧ c = .bool (cr k) ∧ wr.rowIs w.heap.size 4 N (BitF g k) ∧ Below w.heap.size w wr

end Go.Proofs.Ythmfolekohomiaa
