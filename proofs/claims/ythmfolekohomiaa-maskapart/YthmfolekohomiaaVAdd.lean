/-
  The reference's Add on words.
-/
import Derived.Test.YthmfolekohomiaaVOr
import Derived.Deep.DeepCutAuto
namespace Go.Proofs.Ythmfolekohomiaa
open Go.RowKit


end Go.Proofs.Ythmfolekohomiaa
