/-
  Words and contracts that the proof leans on.
-/
import Derived.Test.YtjkppifhjednoaaM7
import Derived.Test.YtjkppifhjednoaaM3
import Derived.Test.YtjkppifhjednoaaM8
import Derived.BigRegion
namespace Go.Proofs.Ytjkppifhjednoaa
open Go.RowKit

end Go.Proofs.Ytjkppifhjednoaa

namespace Go.Proofs.Ytjkppifhjednoaa
open Go.RowKit

end Go.Proofs.Ytjkppifhjednoaa
