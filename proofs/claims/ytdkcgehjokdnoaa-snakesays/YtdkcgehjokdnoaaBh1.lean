/-
  Contract of the reference's Behind: the table from the ends on.
-/
import Derived.Test.YtdkcgehjokdnoaaTbl
import Derived.Test.YtdkcgehjokdnoaaRefI
import Derived.Test.YtdkcgehjokdnoaaStep
import Derived.BigRegion
namespace Go.Proofs.Ytdkcgehjokdnoaa
open Go.RowKit

theorem Try.infoInts1 : (Try.prog.info? 22).map (fun i => (i.zero, i.size, i.bytes)) = some (some (.slice none 0 0), 1, 24) := by kernel_rfl

/-- What Behind leaves. -/
def BhMade (a b : List Int) (n m : Nat) (w : World) (e : Ending) (w' : World) : Prop :=
  e = .returned (.slice (some ⟨w.heap.size, 0, none⟩) (n + 1) (n + 1)) ∧ Table a b n m w.heap.size w' ∧ Below w.heap.size w w'

/-- The head of a round of the outer loop. -/
def BhRel (a b : List Int) (n m : Nat) (w : World) (i : Value) (wr : World) : Prop :=
  (∃ r k, r + k = n ∧ i = .int .i64 (r : Int) ∧ Tbl a b n m w.heap.size k wr ∧ Below w.heap.size w wr) ∨ (i = .int .i64 (-1) ∧ Tbl a b n m w.heap.size (n + 1) wr ∧ Below w.heap.size w wr)
/-- The head of a round of the inner loop. -/
def BiRel (a b : List Int) (n m r k : Nat) (w : World) (j : Value) (wr : World) : Prop :=
  (∃ c, c < m ∧ j = .int .i64 (c : Int) ∧ Part a b n m w.heap.size r k (c + 1) wr ∧ Below w.heap.size w wr) ∨ (j = .int .i64 (-1) ∧ Part a b n m w.heap.size r k 0 wr ∧ Below w.heap.size w wr)

theorem bh_next {a b : List Int} {n m r k : Nat} {w wr : World} {x : Int} (hr : r + k = n) (hx : x = (r : Int) - 1) (h : Part a b n m w.heap.size r k 0 wr) (hb : Below w.heap.size w wr) : BhRel a b n m w (.int .i64 x) wr := by
  have h' := part_done h hr
  subst hx
  cases r with
  | zero => exact .inr ⟨by simp, by rw [show n = k by omega]; rw [show n = k by omega] at h'; exact h', hb⟩
  | succ r => exact .inl ⟨r, k + 1, by omega, by congr 1; omega, h', hb⟩
theorem bi_next {a b : List Int} {n m r k c : Nat} {w wr : World} {x v : Int} (hc : c < m) (hx : x = (c : Int) - 1) (hv : v = (lx a b r c : Nat)) (h : Part a b n m w.heap.size r k (c + 1) wr) (hb : Below w.heap.size w wr) : BiRel a b n m r k w (.int .i64 x) (wr.setCell ⟨w.heap.size + 1 + k, c, none⟩ (.int .i64 v)) := by
  have h' := part_set h hv
  have hb' : Below w.heap.size w (wr.setCell ⟨w.heap.size + 1 + k, c, none⟩ (.int .i64 v)) := hb.setCell (by show _ ≤ w.heap.size + 1 + k; omega) _
  subst hx
  cases c with
  | zero => exact .inr ⟨by simp, h', hb'⟩
  | succ c => exact .inl ⟨c, by omega, by congr 1; omega, h', hb'⟩
theorem bi_start {a b : List Int} {n m r k : Nat} {w wr : World} {x : Int} (hx : x = (m : Int) - 1) (h : Part a b n m w.heap.size r k m wr) (hb : Below w.heap.size w wr) : BiRel a b n m r k w (.int .i64 x) wr := by
  subst hx
  cases m with
  | zero => exact .inr ⟨by simp, h, hb⟩
  | succ m => exact .inl ⟨m, by omega, by congr 1; omega, h, hb⟩

theorem lx_le (a b : List Int) (r c : Nat) : lx a b r c ≤ a.length := Nat.le_trans (lcs_le_left _ _) (by rw [List.length_drop]; omega)
theorem part_drew {a b : List Int} {n m T r k c0 : Nat} {wr : World} (h : Part a b n m T r k c0 wr) : Part a b n m T r k c0 wr.drew := h

end Go.Proofs.Ytdkcgehjokdnoaa
