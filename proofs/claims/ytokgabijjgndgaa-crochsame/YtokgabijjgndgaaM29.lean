/-
  Words and contracts that the proof leans on.
-/
import Derived.Test.YtokgabijjgndgaaM24
import Derived.Test.YtokgabijjgndgaaM27
import Derived.Test.YtokgabijjgndgaaM28
import Derived.Test.YtokgabijjgndgaaM17
import Derived.BigRegion
import Derived.Test.YtokgabijjgndgaaM3
import Derived.Test.YtokgabijjgndgaaM11
import Derived.Test.YtokgabijjgndgaaM8
import Derived.Test.YtokgabijjgndgaaM13
namespace Go.Proofs.Ytokgabijjgndgaa
open Go.RowKit

/-- v is a row of W words of the call's own with the bits b. -/
def OwW (B W : Nat) (b : Nat → Bool) (w : World) (v : Value) : Prop := ∃ x, x.length = W ∧ Wd x ∧ (∀ j, bt x j = b j) ∧ w.ownsRow B 24 1 v W (uv x)
theorem OwW.read {B W : Nat} {b : Nat → Bool} {w : World} {v : Value} (h : OwW B W b w v) : RdW 0 W b w v := by
  obtain ⟨x, h1, h2, h3, h4⟩ := h
  obtain ⟨A, c, rfl, g1, g2, g3, _⟩ := own_slice h4
  exact ⟨A, c, x, rfl, g1, g2, h1, h2, h3, g3, fun _ _ => Nat.zero_le _⟩
theorem OwW.below {B W : Nat} {b : Nat → Bool} {w w' : World} {v : Value} (h : OwW B W b w v) (hb : Below w.heap.size w w') : OwW B W b w' v := by
  obtain ⟨x, h1, h2, h3, h4⟩ := h
  exact ⟨x, h1, h2, h3, own_below h4 hb (Nat.le_refl _)⟩
end Go.Proofs.Ytokgabijjgndgaa

namespace Go.Proofs.Ytokgabijjgndgaa
open Go.RowKit

theorem words_is {W : Nat} {b : Nat → Bool} {x : List Nat} (y : List Nat) (hx : x.length = W) (wx : Wd x) (bx : ∀ j, bt x j = b j) (hy : y.length = W) (wy : Wd y) (h : ∀ j, j < 64 * W → b j = bt y j) : x = y :=
  words_eq (by omega) wx wy fun j => by
    by_cases hj : j < 64 * W
    · rw [bx j, h j hj]
    · rw [bt_out (by omega), bt_out (by omega)]
theorem below_same {w w' : World} (h : w = w') : Below w.heap.size w w' := h ▸ Below.refl _ _
theorem wd_all {x : List Nat} (h : (x.all fun u => decide (u < 18446744073709551616)) = true) : Wd x := fun u hu => by
  rw [List.all_eq_true] at h
  simpa using h u hu
theorem sameW_same (A A' : Option Addr) (W c c' : Nat) (x y : List Nat) (w : World) (hx : x.length = W) (hy : y.length = W) (hb : W ≤ 9223372036854775807) (hr : Row w A (uv x)) (hr' : Row w A' (uv y)) (e : x = y) :
    Calls Try.prog 14 #[.slice A W c, .slice A' W c'] w fun e w' => e = .returned (.bool true) ∧ ∃ q, w' = w.drewN q := by
  have h := sameW_any A A' W W c c' x y w hx hy hb hr hr'
  rwa [decide_eq_true e] at h
end Go.Proofs.Ytokgabijjgndgaa
