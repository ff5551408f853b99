/-
  A row of pairs that grows, what else is kept.
-/
import Derived.Test.YtnocjkpjihpphaaOwnS
import Derived.Test.YtnocjkpjihpphaaLow
import Derived.Test.YtnocjkpjihpphaaRnd
import Derived.Test.YtnocjkpjihpphaaFb1
import Derived.Maps.AppendAt
import Derived.OneCell
namespace Go.Proofs.Ytnocjkpjihpphaa
open Go.RowKit

theorem below_grown {w w' : World} (h : Below w.heap.size w w') (r : Option Nat) : w.grownBy w' r := ⟨h.os, h.tape, h.output, h.size, fun k hk _ => h.block k hk⟩
theorem grown_below {w w' : World} {r : Option Nat} (h : w.grownBy w' r) {B : Nat} (hB : B ≤ w.heap.size) (hr : ∀ k, r = some k → B ≤ k) : Below B w w' := (Below.refl _ _).grown h hB (fun k e => hr k e)

def lenV : Value → Nat
  | .slice _ n _ => n
  | _ => 0
end Go.Proofs.Ytnocjkpjihpphaa
