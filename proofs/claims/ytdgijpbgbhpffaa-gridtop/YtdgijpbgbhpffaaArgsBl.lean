/-
  What a law's arguments are in memory, out of their readings as data: lists of true and false.
-/
import Derived.Test.YtdgijpbgbhpffaaArgs
import Derived.Test.YtdgijpbgbhpffaaRf7
import Derived.Deep.Grids
namespace Go.Proofs.Ytdgijpbgbhpffaa
open Go.ChangeShapes Go.WideShapes Go.ChangeAt Go.RowKit Go.Deep

/-- A list of true and false that came in: it reads l. -/
def ArgBl (w : World) (A : Option Addr) (n c : Nat) (l : List Bool) : Prop := l.length = n ∧ n ≤ c ∧ c ≤ maxLen ∧ Row w A (bvs l) ∧ (A = none → c = 0) ∧ True

section
variable {H : Type} {enc : TypeId × Value → H} {P : Program} {W : World}

theorem open_argBl {t e : TypeId} {A : Option Addr} {n c : Nat} {d : DataW H} {p : List MemPlace} (ht : P.underlying t = some (.slice e)) (he : P.underlying e = some .bool) (ce : P.cellsOf e = 1)
    (h : DataW.Trod enc P W 0 (fun _ => true) true t (.slice A n c) d p) : ∃ l, ArgBl W A n c l := by
  obtain ⟨fuel, hf⟩ := h
  rcases open_bools ht he ce hf with ⟨hcs, _⟩ | ⟨a, len, cap, B, hcs, _, hl, hm, _, hcell⟩
  · simp [Value.cells] at hcs
    obtain ⟨rfl, rfl, rfl⟩ := hcs
    exact ⟨[], rfl, Nat.le_refl _, Nat.zero_le _, Row.nil _ _, fun _ => rfl, trivial⟩
  · simp [Value.cells] at hcs
    obtain ⟨rfl, rfl, rfl⟩ := hcs
    refine ⟨(List.range n).map B, by simp, hl, hm, ?_, (fun e => by cases e), trivial⟩
    refine row_of_cells fun i u hu => ?_
    unfold bvs at hu
    rw [List.map_map, List.getElem?_map] at hu
    rcases Nat.lt_or_ge i n with g | g
    · rw [List.getElem?_range g] at hu
      simp only [Option.map_some, Option.some.injEq] at hu
      rw [hcell i (by omega), ← hu]
      rfl
    · rw [List.getElem?_eq_none (by simpa using g)] at hu
      cases hu
end

end Go.Proofs.Ytdgijpbgbhpffaa
