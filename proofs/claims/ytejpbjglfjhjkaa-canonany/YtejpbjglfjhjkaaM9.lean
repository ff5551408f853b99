/-
  Words and contracts that the proof leans on.
-/
import Derived.Test.YtejpbjglfjhjkaaM6
import Derived.Test.YtejpbjglfjhjkaaM2
import Derived.Deep.OwnRows
namespace Go.Proofs.Ytejpbjglfjhjkaa
open Go.RowKit

/-- L of what is behind r and c. -/
def lx (a b : List Int) (r c : Nat) : Nat := lcs (a.drop r) (b.drop c)
theorem lx_end_left (a b : List Int) (r c : Nat) (h : a.length ≤ r) : lx a b r c = 0 := lcs_end_left a b r c h
theorem lx_end_right (a b : List Int) (r c : Nat) (h : b.length ≤ c) : lx a b r c = 0 := lcs_end_right a b r c h
theorem lx_same {a b : List Int} {r c : Nat} {x : Int} (h1 : a[r]? = some x) (h2 : b[c]? = some x) : lx a b r c = lx a b (r + 1) (c + 1) + 1 := by
  obtain ⟨g1, e1⟩ := List.getElem?_eq_some_iff.1 h1
  obtain ⟨g2, e2⟩ := List.getElem?_eq_some_iff.1 h2
  unfold lx
  rw [lcs_at a b r c g1 g2, if_pos (by rw [e1, e2])]
theorem lx_other {a b : List Int} {r c : Nat} {x y : Int} (h1 : a[r]? = some x) (h2 : b[c]? = some y) (hne : x ≠ y) : lx a b r c = max (lx a b (r + 1) c) (lx a b r (c + 1)) := by
  obtain ⟨g1, e1⟩ := List.getElem?_eq_some_iff.1 h1
  obtain ⟨g2, e2⟩ := List.getElem?_eq_some_iff.1 h2
  unfold lx
  rw [lcs_at a b r c g1 g2, if_neg (by rw [e1, e2]; exact hne)]

def RowF (a b : List Int) (r c0 : Nat) (c : Nat) : Value := if c0 ≤ c then .int .i64 (lx a b r c : Nat) else .int .i64 0
def TopF (T n m k : Nat) (r : Nat) : Value := if n < r + k then .slice (some ⟨T + 1 + (n - r), 0, none⟩) (m + 1) (m + 1) else .slice none 0 0

/-- k rows are made. -/
def Tbl (a b : List Int) (n m T k : Nat) (wr : World) : Prop :=
  wr.rowIs T 26 (n + 1) (TopF T n m k) ∧ (∀ r, r ≤ n → n < r + k → wr.rowIs (T + 1 + (n - r)) 3 (m + 1) (RowF a b r 0)) ∧ wr.heap.size = T + 1 + k
/-- k rows are made, and of row r the part from c0 on. -/
def Part (a b : List Int) (n m T r k c0 : Nat) (wr : World) : Prop :=
  wr.rowIs T 26 (n + 1) (TopF T n m (k + 1)) ∧ (∀ r, r ≤ n → n < r + k → wr.rowIs (T + 1 + (n - r)) 3 (m + 1) (RowF a b r 0)) ∧ wr.rowIs (T + 1 + k) 3 (m + 1) (RowF a b r c0) ∧ wr.heap.size = T + 1 + (k + 1)

theorem tbl_start (a b : List Int) (n m : Nat) (w : World) : Tbl a b n m w.heap.size 0 (w.alloc (.cells (madeCells #[.slice none 0 0] (n + 1)) 26)) := by
  refine ⟨(World.rowIs_made w _ _ _).congr fun i hi => ?_, fun r h1 h2 => by omega, by simp⟩
  unfold TopF
  rw [if_neg (by omega)]

theorem tbl_row {a b : List Int} {n m T r k : Nat} {wr : World} (h : Tbl a b n m T k wr) (hr : r + k = n) (hm : b.length = m) :
    Part a b n m T r k m ((wr.alloc (.cells (madeCells #[.int .i64 0] (m + 1)) 3)).setCell ⟨T, r, none⟩ (.slice (some ⟨wr.heap.size, 0, none⟩) (m + 1) (m + 1))) := by
  obtain ⟨h1, h2, h3⟩ := h
  refine ⟨((h1.alloc _).set r _).congr fun i hi => ?_, fun r' g1 g2 => ((h2 r' g1 g2).alloc _).setOther (by show T + 1 + (n - r') ≠ T; omega) _, ?_, ?_⟩
  · unfold TopF
    by_cases e : i = r
    · subst e
      rw [if_pos rfl, if_pos (by omega), h3, show n - i = k by omega]
    · rw [if_neg e]
      by_cases g : n < i + k
      · rw [if_pos g, if_pos (by omega)]
      · rw [if_neg g, if_neg (by omega)]
  · have hx := World.rowIs_made wr (.int .i64 0) (m + 1) 3
    rw [h3] at hx
    refine (hx.setOther (a := ⟨T, r, none⟩) (by show T + 1 + k ≠ T; omega) _).congr fun i hi => ?_
    unfold RowF
    split
    · rw [lx_end_right a b r i (by omega)]
      rfl
    · rfl
  · simp [h3]
    omega

theorem part_set {a b : List Int} {n m T r k c0 : Nat} {wr : World} {v : Int} (h : Part a b n m T r k (c0 + 1) wr) (hv : v = (lx a b r c0 : Nat)) : Part a b n m T r k c0 (wr.setCell ⟨T + 1 + k, c0, none⟩ (.int .i64 v)) := by
  obtain ⟨h1, h2, h3, h4⟩ := h
  refine ⟨h1.setOther (by show T ≠ T + 1 + k; omega) _, fun r' g1 g2 => (h2 r' g1 g2).setOther (by show T + 1 + (n - r') ≠ T + 1 + k; omega) _, (h3.set c0 _).congr fun i hi => ?_, by simpa using h4⟩
  unfold RowF
  by_cases e : i = c0
  · subst e
    rw [if_pos rfl, if_pos (Nat.le_refl _), hv]
  · rw [if_neg e]
    by_cases g : c0 + 1 ≤ i
    · rw [if_pos g, if_pos (by omega)]
    · rw [if_neg g, if_neg (by omega)]

theorem part_done {a b : List Int} {n m T r k : Nat} {wr : World} (h : Part a b n m T r k 0 wr) (hr : r + k = n) : Tbl a b n m T (k + 1) wr := by
  obtain ⟨h1, h2, h3, h4⟩ := h
  refine ⟨h1, fun r' g1 g2 => ?_, h4⟩
  by_cases e : n < r' + k
  · exact h2 r' g1 e
  · have : r' = r := by omega
    subst this
    rw [show n - r' = k by omega]
    exact h3
theorem part_last {a b : List Int} {n m T r k c0 : Nat} {wr : World} (h : Part a b n m T r k c0 wr) (hr : a.length ≤ r) : Part a b n m T r k 0 wr := by
  obtain ⟨h1, h2, h3, h4⟩ := h
  refine ⟨h1, h2, h3.congr fun i hi => ?_, h4⟩
  unfold RowF
  rw [if_pos (Nat.zero_le _), lx_end_left a b r i hr]
  split <;> rfl

/-- What can be read in a part. -/
theorem part_top {a b : List Int} {n m T r k c0 : Nat} {wr : World} (h : Part a b n m T r k c0 wr) {i : Nat} (hi : i ≤ n) (hk : n ≤ i + k) : wr.cell? ⟨T, i, none⟩ = some (.slice (some ⟨T + 1 + (n - i), 0, none⟩) (m + 1) (m + 1)) := by
  rw [h.1.cell (by omega)]
  unfold TopF
  rw [if_pos (by omega)]
theorem part_old {a b : List Int} {n m T r k c0 : Nat} {wr : World} (h : Part a b n m T r k c0 wr) {i j : Nat} (hi : i ≤ n) (hk : n < i + k) (hj : j ≤ m) : wr.cell? ⟨T + 1 + (n - i), j, none⟩ = some (.int .i64 (lx a b i j : Nat)) := by
  rw [(h.2.1 i hi hk).cell (by omega)]
  unfold RowF
  rw [if_pos (Nat.zero_le _)]
theorem part_new {a b : List Int} {n m T r k c0 : Nat} {wr : World} (h : Part a b n m T r k c0 wr) {j : Nat} (hj : j ≤ m) (hc : c0 ≤ j) : wr.cell? ⟨T + 1 + k, j, none⟩ = some (.int .i64 (lx a b r j : Nat)) := by
  rw [h.2.2.1.cell (by omega)]
  unfold RowF
  rw [if_pos hc]
theorem part_zero {a b : List Int} {n m T r k c0 : Nat} {wr : World} (h : Part a b n m T r k c0 wr) {j : Nat} (hj : j ≤ m) (hc : j < c0) : wr.cell? ⟨T + 1 + k, j, none⟩ = some (.int .i64 0) := by
  rw [h.2.2.1.cell (by omega)]
  unfold RowF
  rw [if_neg (by omega)]
theorem part_frozen {a b : List Int} {n m T r k c0 : Nat} {wr : World} (h : Part a b n m T r k c0 wr) (j : Nat) : wr.frozen? ⟨T + 1 + k, j, none⟩ = false := h.2.2.1.frozen j

/-- The whole table, as it is read. -/
def Table (a b : List Int) (n m T : Nat) (w : World) : Prop :=
  ∀ r, r ≤ n → w.cell? ⟨T, r, none⟩ = some (.slice (some ⟨T + 1 + (n - r), 0, none⟩) (m + 1) (m + 1)) ∧ ∀ c, c ≤ m → w.cell? ⟨T + 1 + (n - r), c, none⟩ = some (.int .i64 (lx a b r c : Nat))
theorem tbl_table {a b : List Int} {n m T : Nat} {wr : World} (h : Tbl a b n m T (n + 1) wr) : Table a b n m T wr := by
  obtain ⟨h1, h2, _⟩ := h
  refine fun r hr => ⟨?_, fun c hc => ?_⟩
  · rw [h1.cell (by omega)]
    unfold TopF
    rw [if_pos (by omega)]
  · rw [(h2 r hr (by omega)).cell (by omega)]
    unfold RowF
    rw [if_pos (Nat.zero_le _)]
theorem Table.below {a b : List Int} {n m T : Nat} {w w' : World} (h : Table a b n m T w) (hb : Below w.heap.size w w') : Table a b n m T w' := fun r hr =>
  ⟨(hb.cell (p := ⟨T, r, none⟩) (World.block_lt_of_cell? _ _ (h r hr).1)).trans (h r hr).1, fun c hc => (hb.cell (p := ⟨T + 1 + (n - r), c, none⟩) (World.block_lt_of_cell? _ _ ((h r hr).2 c hc))).trans ((h r hr).2 c hc)⟩
end Go.Proofs.Ytejpbjglfjhjkaa
