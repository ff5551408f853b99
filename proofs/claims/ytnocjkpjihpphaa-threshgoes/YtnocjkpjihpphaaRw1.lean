/-
  Contract of package rows' fillFront: a row of the table from the row above it.
-/
import Derived.Test.YtnocjkpjihpphaaFa1
import Derived.BigRegion
namespace Go.Proofs.Ytnocjkpjihpphaa
open Go.RowKit

end Go.Proofs.Ytnocjkpjihpphaa
