/-
  Words and contracts that the proof leans on.
-/
import Derived.Test.YtokgabijjgndgaaM26
import Derived.Test.YtokgabijjgndgaaM24
namespace Go.Proofs.Ytokgabijjgndgaa
open Go.RowKit

theorem mask_ptr {lo hi : Nat} {b : List Int} {w : World} {v : Value} (h : Msk lo hi b w v) : ∃ p, v = .pointer (some ⟨p, 0, none⟩) := by
  obtain ⟨p, _, _, _, e, _⟩ := h
  exact ⟨p, e⟩
theorem mask_set {lo hi : Nat} {b : List Int} {w : World} {v : Value} (h : Msk lo hi b w v) {T i : Nat} (hT : T < lo) (u : Value) : Msk lo hi b (w.setCell ⟨T, i, none⟩ u) v :=
  h.keep fun k hk _ => Below.heap_setCell w ⟨T, i, none⟩ u k (by show k ≠ T; omega)
theorem mask_grown {lo hi : Nat} {b : List Int} {w w' : World} {v : Value} {r : Option Nat} (h : Msk lo hi b w v) (hh : hi ≤ w.heap.size) (hg : w.grownBy w' r) (hr : ∀ g, r = some g → g < lo) : Msk lo hi b w' v :=
  h.keep fun k hk hk' => hg.block k (by omega) (fun e => by have := hr k e.symm; omega)
/-- A slice's cell stays as it is. -/
def RwS (T k : Nat) (v : Value) (w : World) : Prop := w.cell? ⟨T, k, none⟩ = some v ∧ True
theorem Try.infoRowW : (Try.prog.info? 22).map (fun i => (i.zero, i.size, i.bytes)) = some (some (.slice none 0 0), 1, 24) := by kernel_rfl

end Go.Proofs.Ytokgabijjgndgaa
