/-
  Words and contracts that the proof leans on.
-/
import Derived.Test.YtokgabijjgndgaaM20
import Derived.Test.YtokgabijjgndgaaM16
namespace Go.Proofs.Ytokgabijjgndgaa
open Go.ChangeShapes Go.WideShapes Go.ChangeAt Go.RowKit

/-- A list of words that came in: it reads x. -/
def ArgU (w : World) (A : Option Addr) (n c : Nat) (x : List Nat) : Prop := x.length = n ∧ n ≤ c ∧ c ≤ maxLen ∧ Row w A (uv x) ∧ (A = none → c = 0) ∧ Wd x

section
variable {H : Type} {enc : TypeId × Value → H} {P : Program} {W : World}

theorem open_argU {t e : TypeId} {A : Option Addr} {n c : Nat} {d : DataW H} {p : List MemPlace} (ht : P.underlying t = some (.slice e)) (he : P.underlying e = some (.int .u64)) (ce : P.cellsOf e = 1)
    (h : DataW.Trod enc P W 0 (fun _ => true) true t (.slice A n c) d p) : ∃ x, ArgU W A n c x := by
  obtain ⟨fuel, hf⟩ := h
  rcases open_ints ht he ce hf with ⟨hcs, _⟩ | ⟨a, len, cap, zs, hcs, _, hl, hm, hz, _, hcell, hwz⟩
  · simp [Value.cells] at hcs
    obtain ⟨rfl, rfl, rfl⟩ := hcs
    exact ⟨[], rfl, Nat.le_refl _, Nat.zero_le _, Row.nil _ _, fun _ => rfl, fun u hu => by simp at hu⟩
  · simp [Value.cells] at hcs
    obtain ⟨rfl, rfl, rfl⟩ := hcs
    simp only [if_true] at hz
    refine ⟨(zs.take n).map Int.toNat, by simp [List.length_take]; omega, hl, hm, ?_, (fun e => by cases e), fun u hu => ?_⟩
    · refine row_of_cells fun i u hu => ?_
      unfold uv at hu
      rw [List.getElem?_map, List.getElem?_map, List.getElem?_take] at hu
      split at hu
      · have hi : i < zs.length := by omega
        rw [hcell i hi]
        rw [List.getElem?_eq_getElem hi] at hu
        simp only [Option.map_some] at hu
        rw [← hu]
        have hb := bounds_u64 (hwz zs[i] (List.getElem_mem hi))
        have e : zs.getD i 0 = zs[i] := by simp [List.getD, List.getElem?_eq_getElem hi]
        rw [e]
        congr 2
        omega
      · cases hu
    · obtain ⟨z, hzm, rfl⟩ := List.mem_map.1 hu
      have hb := bounds_u64 (hwz z (List.mem_of_mem_take hzm))
      omega
end

end Go.Proofs.Ytokgabijjgndgaa
