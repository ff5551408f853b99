/-
  Words and contracts that the proof leans on.
-/
import Derived.Test.YtejpbjglfjhjkaaM25
import Derived.Test.YtejpbjglfjhjkaaM3
namespace Go.Proofs.Ytejpbjglfjhjkaa
open Go.ChangeShapes Go.WideShapes Go.ChangeAt Go.RowKit

/-- A list of numbers that came in: it reads l. -/
def ArgI (w : World) (A : Option Addr) (n c : Nat) (l : List Int) : Prop := l.length = n ∧ n ≤ c ∧ c ≤ maxLen ∧ Row w A (iv l) ∧ (A = none → c = 0) ∧ ∀ x ∈ l, (Lit.int .i64 x).wf = true

section
variable {H : Type} {enc : TypeId × Value → H} {P : Program} {W : World}

theorem open_argI {t e : TypeId} {A : Option Addr} {n c : Nat} {d : DataW H} {p : List MemPlace} (ht : P.underlying t = some (.slice e)) (he : P.underlying e = some (.int .i64)) (ce : P.cellsOf e = 1)
    (h : DataW.Trod enc P W 0 (fun _ => true) true t (.slice A n c) d p) : ∃ l, ArgI W A n c l := by
  obtain ⟨fuel, hf⟩ := h
  rcases open_ints ht he ce hf with ⟨hcs, _⟩ | ⟨x, len, cap, zs, hcs, _, hl, hm, hz, _, hcell, hwz⟩
  · simp [Value.cells] at hcs
    obtain ⟨rfl, rfl, rfl⟩ := hcs
    exact ⟨[], rfl, Nat.le_refl _, Nat.zero_le _, Row.nil _ _, fun _ => rfl, by simp⟩
  · simp [Value.cells] at hcs
    obtain ⟨rfl, rfl, rfl⟩ := hcs
    simp only [if_true] at hz
    refine ⟨zs.take n, by simp [List.length_take]; omega, hl, hm, ?_, (fun e => by cases e), fun x hx => hwz x (List.mem_of_mem_take hx)⟩
    refine row_of_cells fun i u hu => ?_
    unfold iv at hu
    rw [List.getElem?_map, List.getElem?_take] at hu
    split at hu
    · have hi : i < zs.length := by omega
      rw [hcell i hi]
      rw [List.getElem?_eq_getElem hi] at hu
      simp only [Option.map_some] at hu
      rw [← hu]
      simp [List.getD, List.getElem?_eq_getElem hi]
    · cases hu
end

end Go.Proofs.Ytejpbjglfjhjkaa
