/-
  The reference's comparing of lists of numbers (tattingref1.SameInts).
-/
import Derived.Test.YtbfgfeggiicmbaaMemI
import Derived.Deep.QuietTactic
import Derived.BigQuiet
namespace Go.Proofs.Ytbfgfeggiicmbaa
open Go.RowKit

/-- Numbers as values. -/
def iv (l : List Int) : List Value := l.map (Value.int .i64)
theorem iv_length (l : List Int) : (iv l).length = l.length := by simp [iv]
theorem iv_one (l : List Int) : ∀ u ∈ iv l, u.oneCell' = true := by
  intro u hu
  obtain ⟨_, _, rfl⟩ := List.mem_map.1 hu
  rfl
theorem iv_append (l r : List Int) : iv (l ++ r) = iv l ++ iv r := by simp [iv]
theorem Row.int {w : World} {A : Option Addr} {l : List Int} (h : Row w A (iv l)) {k : Nat} (hk : k < l.length) :
    ∃ g o, A = some ⟨g, o, none⟩ ∧ w.cell? ⟨g, o + k, none⟩ = some (.int .i64 l[k]) := by
  obtain ⟨g, o, e, hc⟩ := h.at_ k (by simpa [iv] using hk)
  exact ⟨g, o, e, by rw [hc]; simp [iv]⟩

end Go.Proofs.Ytbfgfeggiicmbaa
