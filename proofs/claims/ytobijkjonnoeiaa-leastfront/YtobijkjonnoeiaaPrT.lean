/-
  Contracts of package pairs' Turn and Move, and of the reference's.
-/
import Derived.Test.YtobijkjonnoeiaaPrP
import Derived.Test.YtobijkjonnoeiaaOwnS
import Derived.Test.YtobijkjonnoeiaaLow
namespace Go.Proofs.Ytobijkjonnoeiaa
open Go.RowKit

/-- The head of a round that fills new pairs: k of them are f of l's. -/
def FillRel (f : Pr → Pr) (l : List Pr) (w : World) (i : Value) (wr : World) : Prop :=
  ∃ k : Nat, k ≤ l.length ∧ i = .int .i64 (k : Int) ∧ wr.ownsRow w.heap.size 26 2 (.slice (some ⟨w.heap.size, 0, none⟩) l.length l.length) l.length (pv ((l.take k).map f ++ List.replicate (l.length - k) (0, 0))) ∧ Below w.heap.size w wr
theorem fill_start {f : Pr → Pr} {l : List Pr} {w wr : World} (h : wr.ownsRow w.heap.size 26 2 (.slice (some ⟨w.heap.size, 0, none⟩) l.length l.length) l.length (madeCells (Value.agg #[.int .i64 0, .int .i64 0]).cells (l.length * 2)).toList) (hb : Below w.heap.size w wr) : FillRel f l w (.int .i64 0) wr := by
  rw [made_pairs] at h
  exact ⟨0, Nat.zero_le _, rfl, by simpa using h, hb⟩
theorem fill_list {f : Pr → Pr} {l : List Pr} {k : Nat} (h : k < l.length) : (l.take k).map f ++ List.replicate (l.length - k) (0, 0) = (l.take k).map f ++ (0, 0) :: List.replicate (l.length - (k + 1)) (0, 0) := by
  rw [show l.length - k = (l.length - (k + 1)) + 1 by omega, List.replicate_succ]
/-- A round. -/
theorem fill_step {f : Pr → Pr} {l : List Pr} {w wr : World} {k : Nat} {p : Pr} (hk : k < l.length) (hp : l[k]? = some p) (h : wr.ownsRow w.heap.size 26 2 (.slice (some ⟨w.heap.size, 0, none⟩) l.length l.length) l.length (pv ((l.take k).map f ++ List.replicate (l.length - k) (0, 0)))) (hb : Below w.heap.size w wr) {x y : Int} (hx : x = (f p).1) (hy : y = (f p).2) :
    FillRel f l w (.int .i64 (k + 1 : Nat)) ((wr.setCell ⟨w.heap.size, k * 2, none⟩ (.int .i64 x)).setCell ⟨w.heap.size, k * 2 + 1, none⟩ (.int .i64 y)) := by
  subst hx
  subst hy
  have hl : ((l.take k).map f).length = k := by simp; omega
  refine ⟨k + 1, by omega, rfl, ?_, (hb.setCell (Nat.le_refl _) _).setCell (Nat.le_refl _) _⟩
  have h2 := own_setS (own_setS h (k * 2) (.int .i64 (f p).1)) (k * 2 + 1) (.int .i64 (f p).2)
  have e := pv_set2 ((l.take k).map f) (List.replicate (l.length - (k + 1)) (0, 0)) (0, 0) (f p).1 (f p).2
  rw [hl] at e
  obtain ⟨hk', e'⟩ := List.getElem?_eq_some_iff.1 hp
  rw [fill_list hk, e] at h2
  rw [List.take_succ_eq_append_getElem hk, e']
  simpa using h2
theorem fill_alloc {f : Pr → Pr} {l : List Pr} {w wr : World} {i : Value} (h : FillRel f l w i wr) (o : Obj) : FillRel f l w i (wr.alloc o) := by
  obtain ⟨k, h1, h2, h3, h4⟩ := h
  exact ⟨k, h1, h2, h3.alloc o, h4.alloc h4.size o⟩
theorem fill_done {f : Pr → Pr} {l : List Pr} {w wr : World} {k : Nat} (hk : ¬ k < l.length) (h : wr.ownsRow w.heap.size 26 2 (.slice (some ⟨w.heap.size, 0, none⟩) l.length l.length) l.length (pv ((l.take k).map f ++ List.replicate (l.length - k) (0, 0)))) (hb : Below w.heap.size w wr) :
    MadeP (l.map f) w (.returned (.slice (some ⟨w.heap.size, 0, none⟩) l.length l.length)) wr := by
  rw [show l.length - k = 0 by omega, List.take_of_length_le (by omega)] at h
  exact ⟨_, rfl, by simpa using h, hb⟩
theorem fill_cells {f : Pr → Pr} {l : List Pr} {w wr : World} {k : Nat} (hk : k < l.length) (h : wr.ownsRow w.heap.size 26 2 (.slice (some ⟨w.heap.size, 0, none⟩) l.length l.length) l.length (pv ((l.take k).map f ++ List.replicate (l.length - k) (0, 0)))) :
    wr.cell? ⟨w.heap.size, k * 2, none⟩ = some (.int .i64 0) ∧ wr.cell? ⟨w.heap.size, k * 2 + 1, none⟩ = some (.int .i64 0) ∧ (∀ j, wr.frozen? ⟨w.heap.size, j, none⟩ = false) := by
  have hl : ((l.take k).map f).length = k := by simp; omega
  obtain ⟨g, c, e, hf, _, _⟩ := own_posS h (by omega)
  cases e
  obtain ⟨g, o, e, h1, h2⟩ := (own_rowS h).pair (k := k) (by simp; omega)
  cases e
  simp only [fill_list hk] at h1 h2
  rw [List.getElem_append_right (by omega)] at h1 h2
  simp only [hl, Nat.sub_self, List.getElem_cons_zero, Nat.zero_add] at h1 h2
  exact ⟨h1, h2, hf⟩

end Go.Proofs.Ytobijkjonnoeiaa
