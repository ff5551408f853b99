/-
  Words and contracts that the proof leans on.
-/
import Derived.Test.YtejpbjglfjhjkaaM23
import Derived.Deep.DeepCutAuto
import Derived.Deep.RegionWith
namespace Go.Proofs.Ytejpbjglfjhjkaa
open Go.RowKit

theorem own_isRow {w : World} {B g m : Nat} {F : Nat → Int} (h : IsRow w g (m + 1) F) (hB : B ≤ g) (hm : m + 1 ≤ maxLen) : w.ownsRow B 3 1 (.slice (some ⟨g, 0, none⟩) (m + 1) (m + 1)) (m + 1) (iv (rowL m F)) := by
  obtain ⟨c, h1, h2, h3⟩ := h
  refine own_of_heap hB hm (by rw [iv_length, rowL_length]) ?_
  rw [h1]
  congr 2
  refine Array.ext_getElem? fun i => ?_
  rcases Nat.lt_or_ge i (m + 1) with g | g
  · rw [h3 i g]
    unfold iv
    rw [List.getElem?_toArray, List.getElem?_map, rowL_get (by omega)]
    rfl
  · rw [Array.getElem?_eq_none (by omega), List.getElem?_toArray, List.getElem?_eq_none (by rw [iv_length, rowL_length]; omega)]
/-! ### Next -/
def FnRel (x : Int) (b : List Int) (row : List Int) (A1 : Option Addr) (g m : Nat) (F : Nat → Int) (w : World) (i : Value) (wr : World) : Prop :=
  ∃ k : Nat, k ≤ m ∧ i = .int .i64 (k : Int) ∧ IsRow wr g (m + 1) (fillA x b (nth row) F k) ∧ Row wr A1 (iv row) ∧ w.grownBy wr (some g)
theorem FnRel.drew {x : Int} {b row : List Int} {A1 : Option Addr} {g m : Nat} {F : Nat → Int} {w wr : World} {i : Value} (hr : FnRel x b row A1 g m F w i wr) : FnRel x b row A1 g m F w i wr.drew := by
  obtain ⟨k, h1, h2, h3, h4, h5⟩ := hr
  exact ⟨k, h1, h2, h3, h4, grown_drew h5⟩
theorem Row.nth {w : World} {h o : Nat} {l : List Int} (hr : Row w (some ⟨h, o, none⟩) (iv l)) {k : Nat} (hk : k < l.length) : w.cell? ⟨h, o + k, none⟩ = some (.int .i64 (nth l k)) := by
  obtain ⟨g, o', e, hc⟩ := hr.int hk
  cases e
  rw [hc, nth_of (List.getElem?_eq_getElem hk)]

end Go.Proofs.Ytejpbjglfjhjkaa

namespace Go.Proofs.Ytejpbjglfjhjkaa
open Go.RowKit

end Go.Proofs.Ytejpbjglfjhjkaa
