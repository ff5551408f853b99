/-
  Words and contracts that the proof leans on.
-/
import Derived.Test.YtjkppifhjednoaaM20
import Derived.Test.YtjkppifhjednoaaM16
namespace Go.Proofs.Ytjkppifhjednoaa
open Go.ChangeShapes Go.WideShapes Go.ChangeAt Go.RowKit

section
variable {H : Type} {enc : TypeId × Value → H} {P : Program} {W : World}

end

end Go.Proofs.Ytjkppifhjednoaa
