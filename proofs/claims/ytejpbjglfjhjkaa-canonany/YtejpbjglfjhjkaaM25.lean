/-
  Words and contracts that the proof leans on.
-/
import Derived.Test.YtejpbjglfjhjkaaRows
import Derived.Test.YtejpbjglfjhjkaaM1
import Derived.ProofKit
import Derived.OpenShut
import Derived.ShutString
import Derived.ChangeOld
import Derived.JoinedCond
import Derived.SizedLaws
import Derived.Deep.Matrix
namespace Go.Proofs.Ytejpbjglfjhjkaa
open Go.ChangeShapes Go.WideShapes Go.ChangeAt Go.RowKit

/-- A byte slice that came in: it reads l. -/
def ArgB (w : World) (A : Option Addr) (n c : Nat) (l : List UInt8) : Prop := l.length = n ∧ n ≤ c ∧ c ≤ maxLen ∧ Row w A (bv l) ∧ (A = none → c = 0)
theorem ArgB.below {w w' : World} {A : Option Addr} {n c : Nat} {l : List UInt8} (h : ArgB w A n c l) (hb : Below w.heap.size w w') : ArgB w' A n c l :=
  ⟨h.1, h.2.1, h.2.2.1, h.2.2.2.1.below hb, h.2.2.2.2⟩

/-- Cells that lie behind an address are a row. -/
theorem row_of_cells {w : World} {a : Addr} {us : List Value} (h : ∀ (i : Nat) u, us[i]? = some u → w.cell? (a.add i) = some u) : Row w (some a) us := fun hne => by
  obtain ⟨b, o, spot⟩ := a
  have h0 : 0 < us.length := by
    cases us with
    | nil => exact absurd rfl hne
    | cons => simp
  have hc := h 0 _ (List.getElem?_eq_getElem h0)
  have hspot : spot = none := by simpa [Addr.add] using World.cell?_spot hc
  subst hspot
  exact ⟨b, o, rfl, fun i u hu => by have := h i u hu; rwa [Addr.add_lit] at this⟩

section
variable {H : Type} {enc : TypeId × Value → H} {P : Program} {W : World}

end

end Go.Proofs.Ytejpbjglfjhjkaa
