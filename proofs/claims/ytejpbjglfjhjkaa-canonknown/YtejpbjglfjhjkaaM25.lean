/-
  Words and contracts that the proof leans on.
-/
import Derived.Test.YtejpbjglfjhjkaaRows
import Derived.Test.YtejpbjglfjhjkaaM1
import Derived.ProofKit
import Derived.OpenShut
import Derived.ShutString
import Derived.ChangeOld
import Derived.JoinedCond
import Derived.SizedLaws
import Derived.Deep.Matrix
namespace Go.Proofs.Ytejpbjglfjhjkaa
open Go.ChangeShapes Go.WideShapes Go.ChangeAt Go.RowKit

/-- A byte slice that came in: it reads l. -/
def ArgB (w : World) (A : Option Addr) (n c : Nat) (l : List UInt8) : Prop := l.length = n ∧ n ≤ c ∧ c ≤ maxLen ∧ Row w A (bv l) ∧ (A = none → c = 0)
theorem ArgB.below {w w' : World} {A : Option Addr} {n c : Nat} {l : List UInt8} (h : ArgB w A n c l) (hb : Below w.heap.size w w') : ArgB w' A n c l :=
  ⟨h.1, h.2.1, h.2.2.1, h.2.2.2.1.below hb, h.2.2.2.2⟩

section
variable {H : Type} {enc : TypeId × Value → H} {P : Program} {W : World}

end

end Go.Proofs.Ytejpbjglfjhjkaa
