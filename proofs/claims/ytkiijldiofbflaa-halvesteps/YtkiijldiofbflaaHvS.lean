/-
  What a call leaves that returns new pairs and a number of steps.
-/
import Derived.Test.YtkiijldiofbflaaHvP
import Derived.Test.YtkiijldiofbflaaPairK
namespace Go.Proofs.Ytkiijldiofbflaa
open Go.RowKit

def MadeS (l : List Pr) (s : Nat) (w : World) (e : Ending) (w' : World) : Prop := ∃ v, e = .returned (.tuple #[v, .int .i64 (s : Int)]) ∧ w'.ownsRow w.heap.size 28 2 v l.length (pv l) ∧ Below w.heap.size w w'

end Go.Proofs.Ytkiijldiofbflaa
