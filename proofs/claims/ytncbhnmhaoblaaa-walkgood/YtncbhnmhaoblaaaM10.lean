/-
  Words and contracts that the proof leans on.
-/
import Derived.Test.YtncbhnmhaoblaaaM9
import Derived.Test.YtncbhnmhaoblaaaM6
namespace Go.Proofs.Ytncbhnmhaoblaaa
open Go.ChangeShapes Go.WideShapes Go.ChangeAt Go.RowKit

section
variable {H : Type} {enc : TypeId × Value → H} {P : Program} {W : World}

end

end Go.Proofs.Ytncbhnmhaoblaaa
