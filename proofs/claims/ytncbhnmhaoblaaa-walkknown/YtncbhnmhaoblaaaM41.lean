/-
  Words and contracts that the proof leans on.
-/
import Derived.Test.YtncbhnmhaoblaaaM23
import Derived.Deep.DeepCutAuto
namespace Go.Proofs.Ytncbhnmhaoblaaa
open Go.RowKit

end Go.Proofs.Ytncbhnmhaoblaaa
