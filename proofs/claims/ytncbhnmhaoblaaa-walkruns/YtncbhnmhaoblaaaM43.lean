/-
  Words and contracts that the proof leans on.
-/
import Derived.Test.YtncbhnmhaoblaaaM27
import Derived.Test.YtncbhnmhaoblaaaM28
import Derived.Test.YtncbhnmhaoblaaaM40
import Derived.Test.YtncbhnmhaoblaaaM7
import Derived.BigRegion
import Derived.Test.YtncbhnmhaoblaaaM4
import Derived.Test.YtncbhnmhaoblaaaM21
import Derived.Test.YtncbhnmhaoblaaaM3
import Derived.Test.YtncbhnmhaoblaaaM23
namespace Go.Proofs.Ytncbhnmhaoblaaa
open Go.RowKit

/-- v is a row of W words of the call's own with the bits b. -/
def OwW (B W : Nat) (b : Nat → Bool) (w : World) (v : Value) : Prop := ∃ x, x.length = W ∧ Wd x ∧ (∀ j, bt x j = b j) ∧ w.ownsRow B 71 1 v W (uv x)
theorem OwW.read {B W : Nat} {b : Nat → Bool} {w : World} {v : Value} (h : OwW B W b w v) : RdW 0 W b w v := by
  obtain ⟨x, h1, h2, h3, h4⟩ := h
  obtain ⟨A, c, rfl, g1, g2, g3, _⟩ := own_slice h4
  exact ⟨A, c, x, rfl, g1, g2, h1, h2, h3, g3, fun _ _ => Nat.zero_le _⟩
theorem OwW.below {B W : Nat} {b : Nat → Bool} {w w' : World} {v : Value} (h : OwW B W b w v) (hb : Below w.heap.size w w') : OwW B W b w' v := by
  obtain ⟨x, h1, h2, h3, h4⟩ := h
  exact ⟨x, h1, h2, h3, own_below h4 hb (Nat.le_refl _)⟩
end Go.Proofs.Ytncbhnmhaoblaaa

namespace Go.Proofs.Ytncbhnmhaoblaaa
open Go.RowKit

theorem below_same {w w' : World} (h : w = w') : Below w.heap.size w w' := h ▸ Below.refl _ _
theorem few_wf (N : Int) (h0 : 0 < N) (h1 : N ≤ 1000) (b : List Int) : ∀ x ∈ few N b, (Lit.int .i64 x).wf = true := by
  intro x hx
  obtain ⟨y, _, rfl⟩ := List.mem_map.1 hx
  have h2 := Int.emod_nonneg y (show N ≠ 0 by omega)
  have h3 := Int.emod_lt_of_pos y h0
  exact WalkArith.wf_i64 (by omega)
end Go.Proofs.Ytncbhnmhaoblaaa
