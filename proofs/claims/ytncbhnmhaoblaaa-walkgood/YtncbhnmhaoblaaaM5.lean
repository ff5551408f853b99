/-
  Words and contracts that the proof leans on.
-/
import Derived.Test.YtncbhnmhaoblaaaM3
import Derived.Laws.BitsAllLaws
namespace Go.Proofs.Ytncbhnmhaoblaaa
open Go.RowKit

/-- Words as values. -/
def uv (x : List Nat) : List Value := x.map fun n : Nat => Value.int .u64 (n : Int)
theorem uv_length (x : List Nat) : (uv x).length = x.length := by simp [uv]
theorem uv_one (x : List Nat) : ∀ u ∈ uv x, u.oneCell' = true := by
  intro u hu
  obtain ⟨_, _, rfl⟩ := List.mem_map.1 hu
  rfl
theorem Row.word {w : World} {A : Option Addr} {x : List Nat} (h : Row w A (uv x)) {k : Nat} (hk : k < x.length) :
    ∃ g o, A = some ⟨g, o, none⟩ ∧ w.cell? ⟨g, o + k, none⟩ = some (.int .u64 (x[k] : Int)) := by
  obtain ⟨g, o, e, hc⟩ := h.at_ k (by simpa [uv] using hk)
  exact ⟨g, o, e, by rw [hc]; simp [uv]⟩

/-- Bit i. -/
def bt (x : List Nat) (i : Nat) : Bool := (x[i / 64]?.getD 0).testBit (i % 64)
def btI (x : List Nat) (i : Int) : Bool := decide (0 ≤ i) && bt x i.toNat

theorem bt_out {x : List Nat} {i : Nat} (h : x.length ≤ i / 64) : bt x i = false := by
  unfold bt
  rw [List.getElem?_eq_none h]
  simp

end Go.Proofs.Ytncbhnmhaoblaaa
