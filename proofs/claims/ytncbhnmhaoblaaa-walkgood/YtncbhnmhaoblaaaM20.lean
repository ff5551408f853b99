/-
  Words and contracts that the proof leans on.
-/
import Derived.Test.YtncbhnmhaoblaaaM19
import Derived.BigRegion
namespace Go.Proofs.Ytncbhnmhaoblaaa
open Go.RowKit

def stepA (x : Int) (G F : Nat → Int) (p : Nat × Int) : Nat → Int := fun c => if c = p.1 + 1 then (if x = p.2 then IntKind.i64.wrap (G p.1 + 1) else (if G (p.1 + 1) < F p.1 then F p.1 else G (p.1 + 1))) else F c
/-- The row when k numbers of b are done. -/
def fillA (x : Int) (b : List Int) (G F : Nat → Int) : Nat → Nat → Int
  | 0 => F
  | k + 1 => stepA x G (fillA x b G F k) (k, b[k]?.getD 0)

def FaRel (x : Int) (b : List Int) (h g m : Nat) (G F : Nat → Int) (w : World) (i : Value) (wr : World) : Prop :=
  ∃ k : Nat, k ≤ m ∧ i = .int .i64 (k : Int) ∧ IsRow wr g (m + 1) (fillA x b G F k) ∧ IsRow wr h (m + 1) G ∧ w.grownBy wr (some g)
theorem FaRel.drew {x : Int} {b : List Int} {h g m : Nat} {G F : Nat → Int} {w wr : World} {i : Value} (hr : FaRel x b h g m G F w i wr) : FaRel x b h g m G F w i wr.drew := by
  obtain ⟨k, h1, h2, h3, h4, h5⟩ := hr
  exact ⟨k, h1, h2, h3, h4, grown_drew h5⟩

end Go.Proofs.Ytncbhnmhaoblaaa
