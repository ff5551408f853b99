/-
  Words and contracts that the proof leans on.
-/
import Derived.Test.YtncbhnmhaoblaaaM18
import Derived.Test.YtncbhnmhaoblaaaM4
import Derived.Test.YtncbhnmhaoblaaaM3
import Derived.BigRegion
namespace Go.Proofs.Ytncbhnmhaoblaaa
open Go.RowKit

end Go.Proofs.Ytncbhnmhaoblaaa

namespace Go.Proofs.Ytncbhnmhaoblaaa
open Go.RowKit

end Go.Proofs.Ytncbhnmhaoblaaa
