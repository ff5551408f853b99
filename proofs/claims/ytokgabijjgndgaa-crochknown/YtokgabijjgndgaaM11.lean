/-
  Words and contracts that the proof leans on.
-/
import Derived.Test.YtokgabijjgndgaaM7
import Derived.Test.YtokgabijjgndgaaM3
import Derived.Test.YtokgabijjgndgaaM8
import Derived.BigRegion
namespace Go.Proofs.Ytokgabijjgndgaa
open Go.RowKit

end Go.Proofs.Ytokgabijjgndgaa

namespace Go.Proofs.Ytokgabijjgndgaa
open Go.RowKit

end Go.Proofs.Ytokgabijjgndgaa
