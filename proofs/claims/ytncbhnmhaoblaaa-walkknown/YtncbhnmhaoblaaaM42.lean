/-
  Words and contracts that the proof leans on.
-/
import Derived.Test.YtncbhnmhaoblaaaM24
import Derived.Test.YtncbhnmhaoblaaaM40
import Derived.Test.YtncbhnmhaoblaaaM33
import Derived.Test.YtncbhnmhaoblaaaM41
namespace Go.Proofs.Ytncbhnmhaoblaaa
open Go.RowKit

end Go.Proofs.Ytncbhnmhaoblaaa
