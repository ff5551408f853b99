/-
  Words and contracts that the proof leans on.
-/
import Derived.RangeFuncNested
import Derived.OrdersHeld
import Derived.OwnWalkIn
import Derived.TacticsInMore
namespace Go.Proofs.Ytejpbjglfjhjkaa
open Go.RowKit

end Go.Proofs.Ytejpbjglfjhjkaa
