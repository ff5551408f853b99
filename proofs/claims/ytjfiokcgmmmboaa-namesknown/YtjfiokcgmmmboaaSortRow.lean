/-
  A row that the call made, sorted by the library: what the world is behind it. Of whatever program.
-/
import Derived.Test.YtjfiokcgmmmboaaMem
import Derived.Shelf.SlSortCmp.NoneTotal
import Derived.Lib.SliceRun
import Derived.Laws.IdiomCopy
namespace Go.Proofs.Ytjfiokcgmmmboaa
open Go.RowKit Go.Sort

theorem below_sort {α : Type} [Inhabited α] {enc : α → Value} {B : Nat} {a w : World} {blk : Nat} (h : RowKit.Below B a w) (hB : B ≤ w.heap.size) (hb : B ≤ blk) (off m : Nat) (dk : Array α) (os : Array Obj) : RowKit.Below B a (sortWorld enc w blk off m dk os) := by
  refine h.trans ⟨rfl, rfl, rfl, ?_, fun k hk => ?_⟩
  · simp [sortWorld, grow, putRow, mapBlock, Sort.ahead]
  · show (w.heap.modify blk (onCells (putCells enc off dk)) ++ os)[k]? = w.heap[k]?
    rw [Array.getElem?_append_left (by simp; omega), Array.getElem?_modify, if_neg (by omega)]

theorem sorted_block {α : Type} [Inhabited α] {enc : α → Value} {w : World} {g : Nat} {cur : Array Value} {e : TypeId} {fr : Nat × Nat} (h : w.heap[g]? = some (.cells cur e fr)) (m : Nat) (dk : Array α) (os : Array Obj) :
    (sortWorld enc w g 0 m dk os).heap[g]? = some (.cells (putCells enc 0 dk cur) e fr) := by
  have hg : g < w.heap.size := (Array.getElem?_eq_some_iff.1 h).1
  show (w.heap.modify g (onCells (putCells enc 0 dk)) ++ os)[g]? = _
  rw [Array.getElem?_append_left (by simpa using hg), Array.getElem?_modify, if_pos rfl, h]
  rfl

theorem own_sort {α : Type} [Inhabited α] {enc : α → Value} {w : World} {B g n cap : Nat} {e : TypeId} {xs : List Value} (h : w.ownsRow B e 1 (.slice (some ⟨g, 0, none⟩) n cap) n xs) (m : Nat) (dk : Array α) (os : Array Obj) (hs : dk.size = n) :
    (sortWorld enc w g 0 m dk os).ownsRow B e 1 (.slice (some ⟨g, 0, none⟩) n cap) n (dk.toList.map enc) := by
  rcases h.2 with ⟨h', _⟩ | ⟨g', cap', cur, h', hb, hg, hnc, hcm, hcs, htake⟩
  · cases h'
  · simp only [Value.slice.injEq, Option.some.injEq, Addr.mk.injEq, and_true, true_and] at h'
    obtain ⟨rfl, rfl⟩ := h'
    refine ⟨by simp [hs], .inr ⟨g, cap, putCells enc 0 dk cur, rfl, hb, sorted_block hg m dk os, hnc, hcm, by simpa [putCells] using hcs, ?_⟩⟩
    apply List.ext_getElem?
    intro i
    rw [List.getElem?_take, Nat.mul_one]
    by_cases hi : i < n
    · rw [if_pos hi]
      have hc : i < cur.size := by omega
      simp only [putCells, Array.getElem?_toList, Array.getElem?_mapIdx, Array.getElem?_eq_getElem hc, Option.map_some, List.getElem?_map]
      rw [if_pos ⟨Nat.zero_le _, by omega⟩, Nat.sub_zero, getElem!_pos dk i (by omega), Array.getElem?_eq_getElem (by omega)]
      rfl
    · rw [if_neg hi, List.getElem?_eq_none (by simp; omega)]

theorem holds_own {α : Type} [Inhabited α] {enc : α → Value} {w : World} {B g n cap : Nat} {e : TypeId} {d : Array α} (hs : d.size = n) (h : w.ownsRow B e 1 (.slice (some ⟨g, 0, none⟩) n cap) n (d.toList.map enc)) : Holds enc w g 0 d := fun j hj => by
  refine ⟨?_, ?_⟩
  · rw [Nat.zero_add, h.cellAt j (by omega), List.getElem?_map, Array.getElem?_toList, Array.getElem?_eq_getElem hj, getElem!_pos d j hj]
    rfl
  · exact h.frozenAt _

theorem own_lt {w : World} {B g n cap : Nat} {e : TypeId} {xs : List Value} (h : w.ownsRow B e 1 (.slice (some ⟨g, 0, none⟩) n cap) n xs) : B ≤ g ∧ g < w.heap.size := h.lt g rfl

/-- Behind clear(s[k:]): the first k stand. -/
theorem own_cleared {w : World} {B g n cap : Nat} {e : TypeId} {xs : List Value} {k : Nat} (h : w.ownsRow B e 1 (.slice (some ⟨g, 0, none⟩) n cap) n xs) (hk : k ≤ n) : ∀ (vs : List Value) (o : Nat), k ≤ o →
    (w.setCells g o vs).ownsRow B e 1 (.slice (some ⟨g, 0, none⟩) k cap) k (xs.take k) := by
  intro vs
  induction vs generalizing w xs with
  | nil =>
    intro o _
    rcases h.2 with ⟨h', _⟩ | ⟨g', cap', cur, h', hb, hg, hnc, hcm, hcs, htake⟩
    · cases h'
    · simp only [Value.slice.injEq, Option.some.injEq, Addr.mk.injEq, and_true, true_and] at h'
      obtain ⟨rfl, rfl⟩ := h'
      have hl : xs.length = n := by simpa using h.1
      refine ⟨by rw [List.length_take]; omega, .inr ⟨g, cap, cur, rfl, hb, hg, by omega, hcm, hcs, ?_⟩⟩
      rw [← htake, List.take_take]
      congr 1
      omega
  | cons v r ih =>
    intro o ho
    have h1 := (h.stored o v).1
    have := ih h1 (o + 1) (by omega)
    rw [List.take_set_of_le (by omega)] at this
    exact this

theorem below_setC {B g : Nat} {a : World} (hg : B ≤ g) : ∀ (vs : List Value) (o : Nat) {w : World}, RowKit.Below B a w → RowKit.Below B a (w.setCells g o vs)
  | [], _, _, h => h
  | v :: r, o, _, h => below_setC hg r (o + 1) (h.setCell hg v)

end Go.Proofs.Ytjfiokcgmmmboaa
