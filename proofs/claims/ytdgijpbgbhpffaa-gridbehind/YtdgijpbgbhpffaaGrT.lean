/-
  Tables that calls return, as lists of lists, and place by place.
-/
import Derived.Test.YtdgijpbgbhpffaaPb1
import Derived.Test.YtdgijpbgbhpffaaRf8
import Derived.Test.YtdgijpbgbhpffaaRefL
namespace Go.Proofs.Ytdgijpbgbhpffaa
open Go.RowKit

/-- A table as a list of lists. -/
def tabL (f : Nat → Nat → Int) (n m : Nat) : List (List Int) := (List.range (n + 1)).map fun r => (List.range (m + 1)).map fun c => f r c
theorem tabL_length (f : Nat → Nat → Int) (n m : Nat) : (tabL f n m).length = n + 1 := by simp [tabL]
theorem tab_lists {f : Nat → Nat → Int} {n m T : Nat} {blk : Nat → Nat} {w : World} (hm : m ≤ 1048576) (h : Tab f n m T blk w) : ∃ vs, Row w (some ⟨T, 0, none⟩) vs ∧ ISs w vs (tabL f n m) := by
  refine ⟨(List.range (n + 1)).map fun r => .slice (some ⟨blk r, 0, none⟩) (m + 1) (m + 1), fun _ => ⟨T, 0, rfl, fun i u hu => ?_⟩, by simp [tabL], fun i v l hv hl => ?_⟩
  · rw [List.getElem?_map] at hu
    rcases Nat.lt_or_ge i (n + 1) with g | g
    · rw [List.getElem?_range g] at hu
      simp only [Option.map_some, Option.some.injEq] at hu
      rw [Nat.zero_add, h.1.cell g, hu]
    · rw [List.getElem?_eq_none (by simpa using g)] at hu
      cases hu
  · unfold tabL at hl
    rw [List.getElem?_map] at hv hl
    rcases Nat.lt_or_ge i (n + 1) with g | g
    · rw [List.getElem?_range g] at hv hl
      simp only [Option.map_some, Option.some.injEq] at hv hl
      subst hv
      subst hl
      refine ⟨_, m + 1, by simp, by simp, by unfold maxLen; omega, fun _ => ⟨blk i, 0, rfl, fun j u hu => ?_⟩, fun e => by cases e⟩
      unfold iv at hu
      rw [List.map_map, List.getElem?_map] at hu
      rcases Nat.lt_or_ge j (m + 1) with g' | g'
      · rw [List.getElem?_range g'] at hu
        simp only [Option.map_some, Option.some.injEq] at hu
        rw [Nat.zero_add, World.rowIs.cell (h.2 i (by omega)) g', ← hu]
        rfl
      · rw [List.getElem?_eq_none (by simpa using g')] at hu
        cases hu
    · rw [List.getElem?_eq_none (by simpa using g)] at hv
      cases hv
/-- The reference's table is one, too. -/
theorem behind_tab {a b : List Int} {n m : Nat} {w w' : World} {e : Ending} (h : BhMade a b n m w e w') (hm : m ≤ 1048576) : e = .returned (.slice (some ⟨w.heap.size, 0, none⟩) (n + 1) (n + 1)) ∧ (∃ vs, Row w' (some ⟨w.heap.size, 0, none⟩) vs ∧ ISs w' vs (tabL (fun r c => (lx a b r c : Nat)) n m)) ∧ Below w.heap.size w w' := by
  obtain ⟨h1, h2, h3⟩ := h
  refine ⟨h1, ?_, h3⟩
  refine ⟨(List.range (n + 1)).map fun r => .slice (some ⟨w.heap.size + 1 + (n - r), 0, none⟩) (m + 1) (m + 1), fun _ => ⟨w.heap.size, 0, rfl, fun i u hu => ?_⟩, by simp [tabL], fun i v l hv hl => ?_⟩
  · rw [List.getElem?_map] at hu
    rcases Nat.lt_or_ge i (n + 1) with g | g
    · rw [List.getElem?_range g] at hu
      simp only [Option.map_some, Option.some.injEq] at hu
      rw [Nat.zero_add, (h2 i (by omega)).1, hu]
    · rw [List.getElem?_eq_none (by simpa using g)] at hu
      cases hu
  · unfold tabL at hl
    rw [List.getElem?_map] at hv hl
    rcases Nat.lt_or_ge i (n + 1) with g | g
    · rw [List.getElem?_range g] at hv hl
      simp only [Option.map_some, Option.some.injEq] at hv hl
      subst hv
      subst hl
      refine ⟨_, m + 1, by simp, by simp, by unfold maxLen; omega, fun _ => ⟨w.heap.size + 1 + (n - i), 0, rfl, fun j u hu => ?_⟩, fun e => by cases e⟩
      unfold iv at hu
      rw [List.map_map, List.getElem?_map] at hu
      rcases Nat.lt_or_ge j (m + 1) with g' | g'
      · rw [List.getElem?_range g'] at hu
        simp only [Option.map_some, Option.some.injEq] at hu
        rw [Nat.zero_add, (h2 i (by omega)).2 j (by omega), ← hu]
        rfl
      · rw [List.getElem?_eq_none (by simpa using g')] at hu
        cases hu
    · rw [List.getElem?_eq_none (by simpa using g)] at hv
      cases hv

end Go.Proofs.Ytdgijpbgbhpffaa
