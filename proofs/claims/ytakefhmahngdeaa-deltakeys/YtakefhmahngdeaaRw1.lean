/-
  Contract of package rows' fillFront: a row of the table from the row above it.
-/
import Derived.Test.YtakefhmahngdeaaFa1
import Derived.BigRegion
namespace Go.Proofs.Ytakefhmahngdeaa
open Go.RowKit

end Go.Proofs.Ytakefhmahngdeaa
