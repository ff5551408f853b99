/-
  Words and contracts that the proof leans on.
-/
import Derived.Test.YtncbhnmhaoblaaaM22
import Derived.Deep.RegionWith
import Derived.BigRegion
namespace Go.Proofs.Ytncbhnmhaoblaaa
open Go.RowKit

/-- What is known of a table that is returned. -/
def TabMade (f : Nat → Nat → Int) (n m : Nat) (w : World) (e : Ending) (w' : World) : Prop :=
  ∃ T blk, e = .returned (.slice (some ⟨T, 0, none⟩) (n + 1) (n + 1)) ∧ w.heap.size ≤ T ∧ Tab f n m T blk w' ∧ Below w.heap.size w w'
theorem TabMade.congr {f f' : Nat → Nat → Int} {n m : Nat} {w w' : World} {e : Ending} (h : TabMade f n m w e w') (ef : ∀ r, r ≤ n → ∀ c, c ≤ m → f r c = f' r c) : TabMade f' n m w e w' := by
  obtain ⟨T, blk, h1, h2, h3, h4⟩ := h
  exact ⟨T, blk, h1, h2, h3.congr ef, h4⟩
end Go.Proofs.Ytncbhnmhaoblaaa

namespace Go.Proofs.Ytncbhnmhaoblaaa
open Go.RowKit

/-- k rows are done, and of the next one the numbers up to j. -/
def RaPart (a b : List Int) (n m T k j : Nat) (w3 wr : World) : Prop :=
  wr.rowIs T 26 (n + 1) (fun r => if r < k + 1 then .slice (some ⟨T + 1 + r, 0, none⟩) (m + 1) (m + 1) else .slice none 0 0) ∧ (∀ r, r < k → IsRow wr (T + 1 + r) (m + 1) (fun c => (px a b r c : Nat))) ∧ IsRow wr (T + 1 + k) (m + 1) (fun c => if c < j then (px a b k c : Nat) else 0) ∧ wr.heap.size = T + 1 + (k + 1) ∧ Below T w3 wr
theorem RaPart.drew {a b : List Int} {n m T k j : Nat} {w3 wr : World} (h : RaPart a b n m T k j w3 wr) : RaPart a b n m T k j w3 wr.drew := ⟨h.1, h.2.1, h.2.2.1, h.2.2.2.1, h.2.2.2.2.drew⟩
end Go.Proofs.Ytncbhnmhaoblaaa
