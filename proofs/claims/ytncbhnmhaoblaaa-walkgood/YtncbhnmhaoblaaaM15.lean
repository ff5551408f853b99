/-
  Words and contracts that the proof leans on.
-/
import Derived.RangeFuncNested
import Derived.RangeFuncBox
import Derived.RangeFuncBound
import Derived.RangeFuncCalls
import Derived.RangeFuncLeaves
import Derived.Shelf.Abstract
import Derived.Shelf.RegionOpen
import Derived.WalkKit
import Derived.OwnWalkIn
import Derived.TacticsInMore
import Derived.LoopNIn
import Derived.LoopIn
import Derived.Test.YtncbhnmhaoblaaaM4
namespace Go.Proofs.Ytncbhnmhaoblaaa
open Go.RowKit Go.Shelf
attribute [local go_sem] Oper.semAt_some

/-- A place of a list, and what stands there. -/
abbrev AtI (zs : List Int) := { p : Nat × Int // zs[p.1]? = some p.2 }
/-- What a round keeps. -/
def KpB (n₀ Bs : Nat) (W W' : World) : Prop := Below n₀ W W' ∧ W'.heap[Bs]? = W.heap[Bs]?
end Go.Proofs.Ytncbhnmhaoblaaa
