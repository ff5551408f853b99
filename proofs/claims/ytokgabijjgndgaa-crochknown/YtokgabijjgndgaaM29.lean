/-
  Words and contracts that the proof leans on.
-/
import Derived.Test.YtokgabijjgndgaaM24
import Derived.Test.YtokgabijjgndgaaM27
import Derived.Test.YtokgabijjgndgaaM28
import Derived.Test.YtokgabijjgndgaaM17
import Derived.BigRegion
import Derived.Test.YtokgabijjgndgaaM3
import Derived.Test.YtokgabijjgndgaaM11
import Derived.Test.YtokgabijjgndgaaM8
import Derived.Test.YtokgabijjgndgaaM13
namespace Go.Proofs.Ytokgabijjgndgaa
open Go.RowKit

/-- v is a row of W words of the call's own with the bits b. -/
def OwW (B W : Nat) (b : Nat → Bool) (w : World) (v : Value) : Prop := ∃ x, x.length = W ∧ Wd x ∧ (∀ j, bt x j = b j) ∧ w.ownsRow B 24 1 v W (uv x)
theorem OwW.read {B W : Nat} {b : Nat → Bool} {w : World} {v : Value} (h : OwW B W b w v) : RdW 0 W b w v := by
  obtain ⟨x, h1, h2, h3, h4⟩ := h
  obtain ⟨A, c, rfl, g1, g2, g3, _⟩ := own_slice h4
  exact ⟨A, c, x, rfl, g1, g2, h1, h2, h3, g3, fun _ _ => Nat.zero_le _⟩
theorem OwW.below {B W : Nat} {b : Nat → Bool} {w w' : World} {v : Value} (h : OwW B W b w v) (hb : Below w.heap.size w w') : OwW B W b w' v := by
  obtain ⟨x, h1, h2, h3, h4⟩ := h
  exact ⟨x, h1, h2, h3, own_below h4 hb (Nat.le_refl _)⟩
end Go.Proofs.Ytokgabijjgndgaa

namespace Go.Proofs.Ytokgabijjgndgaa
open Go.RowKit

theorem words_is {W : Nat} {b : Nat → Bool} {x : List Nat} (y : List Nat) (hx : x.length = W) (wx : Wd x) (bx : ∀ j, bt x j = b j) (hy : y.length = W) (wy : Wd y) (h : ∀ j, j < 64 * W → b j = bt y j) : x = y :=
  words_eq (by omega) wx wy fun j => by
    by_cases hj : j < 64 * W
    · rw [bx j, h j hj]
    · rw [bt_out (by omega), bt_out (by omega)]
theorem below_same {w w' : World} (h : w = w') : Below w.heap.size w w' := h ▸ Below.refl _ _
theorem wd_all {x : List Nat} (h : (x.all fun u => decide (u < 18446744073709551616)) = true) : Wd x := fun u hu => by
  rw [List.all_eq_true] at h
  simpa using h u hu
theorem row_zeros {w : World} (n : Nat) (t : TypeId) : Row (w.alloc (.cells (madeCells #[.int .i64 0] n) t)) (some ⟨w.heap.size, 0, none⟩) (iv (List.replicate n 0)) := fun _ => ⟨w.heap.size, 0, rfl, fun i u hu => by
  have h := World.rowIs_made w (.int .i64 0) n t
  simp only [iv, List.map_replicate] at hu
  obtain ⟨hi, e⟩ := List.getElem?_eq_some_iff.1 hu
  simp only [List.length_replicate] at hi
  rw [List.getElem_replicate] at e
  subst e
  rw [Nat.zero_add]
  exact h.cell hi⟩
end Go.Proofs.Ytokgabijjgndgaa
