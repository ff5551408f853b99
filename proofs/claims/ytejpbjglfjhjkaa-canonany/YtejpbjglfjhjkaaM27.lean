/-
  Words and contracts that the proof leans on.
-/
import Derived.Test.YtejpbjglfjhjkaaM25
import Derived.Test.YtejpbjglfjhjkaaM3
import Derived.Deep.SlicePairs
namespace Go.Proofs.Ytejpbjglfjhjkaa
open Go.ChangeShapes Go.WideShapes Go.ChangeAt Go.RowKit

section
variable {H : Type} {enc : TypeId × Value → H} {P : Program} {W : World}

end

end Go.Proofs.Ytejpbjglfjhjkaa
