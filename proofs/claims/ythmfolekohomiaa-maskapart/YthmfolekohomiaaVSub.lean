/-
  The reference's Sub on words.
-/
import Derived.Test.YthmfolekohomiaaVAdd
import Derived.Deep.DeepCutAuto
namespace Go.Proofs.Ythmfolekohomiaa
open Go.RowKit


end Go.Proofs.Ythmfolekohomiaa
