/-
  Words and contracts that the proof leans on.
-/
import Derived.Test.YtokgabijjgndgaaM20
import Derived.Test.YtokgabijjgndgaaM16
namespace Go.Proofs.Ytokgabijjgndgaa
open Go.ChangeShapes Go.WideShapes Go.ChangeAt Go.RowKit

section
variable {H : Type} {enc : TypeId × Value → H} {P : Program} {W : World}

end

end Go.Proofs.Ytokgabijjgndgaa
