/-
  The reference's Or on words.
-/
import Derived.Test.YthmfolekohomiaaVAnd
import Derived.Deep.DeepCutAuto
namespace Go.Proofs.Ythmfolekohomiaa
open Go.RowKit


end Go.Proofs.Ythmfolekohomiaa
