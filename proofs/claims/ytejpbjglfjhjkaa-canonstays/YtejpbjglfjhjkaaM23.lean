/-
  Words and contracts that the proof leans on.
-/
import Derived.Test.YtejpbjglfjhjkaaM14
import Derived.BigRegion
import Derived.Test.YtejpbjglfjhjkaaM10
import Derived.Test.YtejpbjglfjhjkaaM7
namespace Go.Proofs.Ytejpbjglfjhjkaa
open Go.RowKit

def stepA (x : Int) (G F : Nat → Int) (p : Nat × Int) : Nat → Int := fun c => if c = p.1 + 1 then (if x = p.2 then IntKind.i64.wrap (G p.1 + 1) else (if G (p.1 + 1) < F p.1 then F p.1 else G (p.1 + 1))) else F c
/-- The row when k numbers of b are done. -/
def fillA (x : Int) (b : List Int) (G F : Nat → Int) : Nat → Nat → Int
  | 0 => F
  | k + 1 => stepA x G (fillA x b G F k) (k, b[k]?.getD 0)

def FaRel (x : Int) (b : List Int) (h g m : Nat) (G F : Nat → Int) (w : World) (i : Value) (wr : World) : Prop :=
  ∃ k : Nat, k ≤ m ∧ i = .int .i64 (k : Int) ∧ IsRow wr g (m + 1) (fillA x b G F k) ∧ IsRow wr h (m + 1) G ∧ w.grownBy wr (some g)
theorem FaRel.drew {x : Int} {b : List Int} {h g m : Nat} {G F : Nat → Int} {w wr : World} {i : Value} (hr : FaRel x b h g m G F w i wr) : FaRel x b h g m G F w i wr.drew := by
  obtain ⟨k, h1, h2, h3, h4, h5⟩ := hr
  exact ⟨k, h1, h2, h3, h4, grown_drew h5⟩

end Go.Proofs.Ytejpbjglfjhjkaa

namespace Go.Proofs.Ytejpbjglfjhjkaa
open Go.RowKit

/-- L of what is ahead of r and c. -/
def px (a b : List Int) (r c : Nat) : Nat := lcs (a.take r) (b.take c)
end Go.Proofs.Ytejpbjglfjhjkaa

namespace Go.Proofs.Ytejpbjglfjhjkaa
open Go.RowKit

/-- A row that is told by its places, as a list. -/
def rowL (m : Nat) (F : Nat → Int) : List Int := (List.range (m + 1)).map F
/-- Number c of a list. -/
def nth (l : List Int) (c : Nat) : Int := l[c]?.getD 0
/-- The rows of all of a, from the front, from the back. -/
def frontL (a b : List Int) : List Int := rowL b.length fun c => (px a b a.length c : Nat)
def backL (a b : List Int) : List Int := rowL b.length fun c => (lx a b 0 c : Nat)
/-- The first place where both together are most, and how much that is, when k are seen. -/
def sumAt (f g : List Int) (c : Nat) : Int := IntKind.i64.wrap (nth f c + nth g c)
def spR (f g : List Int) : Nat → Nat × Int
  | 0 => (0, sumAt f g 0)
  | k + 1 => if (spR f g k).2 < sumAt f g k then (k, sumAt f g k) else spR f g k
/-- What Split tells. -/
def splitL (f g : List Int) : Nat × Int := if f.length = 0 ∨ f.length ≠ g.length then (0, 0) else spR f g f.length
end Go.Proofs.Ytejpbjglfjhjkaa

namespace Go.Proofs.Ytejpbjglfjhjkaa

/-- Where the second list is parted when the first one is cut in half. -/
def hjo (a b : List Int) : Nat := (splitL (frontL (a.take (a.length / 2)) b) (backL (a.drop (a.length / 2)) b)).1
/-- A part of one number. -/
def one1 (x : Int) (b : List Int) (i j : Int) : List Pr := match at1 x b with | none => [] | some k => [(i, j + (k : Int))]

/-- The list of a part whose places begin at i and j, and its steps. -/
def hv (a b : List Int) (i j : Int) : List Pr × Nat :=
  if a.length = 0 ∨ b.length = 0 then ([], 0)
  else if h : a.length = 1 then (one1 (a[0]'(by omega)) b i j, b.length)
  else
    let x := hv (a.take (a.length / 2)) (b.take (hjo a b)) i j
    let y := hv (a.drop (a.length / 2)) (b.drop (hjo a b)) (i + (a.length / 2 : Nat)) (j + (hjo a b : Nat))
    (x.1 ++ y.1, a.length * b.length + x.2 + y.2)
termination_by a.length
decreasing_by
  all_goals (simp only [List.length_take, List.length_drop]; omega)
end Go.Proofs.Ytejpbjglfjhjkaa
