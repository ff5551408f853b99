/-
  Contract of package grid's Ahead.
-/
import Derived.Test.YtnocjkpjihpphaaTb1
import Derived.Deep.RegionWith
namespace Go.Proofs.Ytnocjkpjihpphaa
open Go.RowKit

/-- What is known of a table that is returned. -/
def TabMade (f : Nat → Nat → Int) (n m : Nat) (w : World) (e : Ending) (w' : World) : Prop :=
  ∃ T blk, e = .returned (.slice (some ⟨T, 0, none⟩) (n + 1) (n + 1)) ∧ w.heap.size ≤ T ∧ Tab f n m T blk w' ∧ Below w.heap.size w w'
theorem TabMade.congr {f f' : Nat → Nat → Int} {n m : Nat} {w w' : World} {e : Ending} (h : TabMade f n m w e w') (ef : ∀ r, r ≤ n → ∀ c, c ≤ m → f r c = f' r c) : TabMade f' n m w e w' := by
  obtain ⟨T, blk, h1, h2, h3, h4⟩ := h
  exact ⟨T, blk, h1, h2, h3.congr ef, h4⟩
/-- The rows up to k are done. -/
def ahF (a b : List Int) (k r c : Nat) : Int := if r ≤ k then (px a b r c : Nat) else 0
theorem ah_step {a b : List Int} {n m T k : Nat} {x : Int} {w w' wr : World} (hn : a.length = n) (hm : b.length = m) (hb : n ≤ 1048576) (hx : a[k]? = some x) (h : Tab (ahF a b k) n m T (fun r => T + 1 + r) wr) (t1 : IsRow w' (T + 1 + (k + 1)) (m + 1) (fillA x b (ahF a b k k) (ahF a b k (k + 1)) m)) (t2 : wr.grownBy w' (some (T + 1 + (k + 1)))) (hB : Below w.heap.size w wr) (hT : w.heap.size ≤ T) :
    Tab (ahF a b (k + 1)) n m T (fun r => T + 1 + r) w' ∧ Below w.heap.size w w' := by
  refine ⟨(h.grown (r0 := k + 1) t2 (by omega) (fun r _ hr => by omega) t1).congr fun r hr c hc => ?_, hB.grown t2 hB.size (fun r e => by cases e; omega)⟩
  by_cases e : r = k + 1
  · subst e
    rw [if_pos rfl]
    have := fillA_row (G := ahF a b k k) (F := ahF a b k (k + 1)) hx (by omega) (fun c _ => by unfold ahF; rw [if_pos (Nat.le_refl _)]) (by unfold ahF; rw [if_neg (by omega)]) c (by omega)
    rw [hm] at this
    rw [this]
    unfold ahF
    rw [if_pos (Nat.le_refl _)]
  · rw [if_neg e]
    unfold ahF
    by_cases g : r ≤ k
    · rw [if_pos g, if_pos (by omega)]
    · rw [if_neg g, if_neg (by omega)]

end Go.Proofs.Ytnocjkpjihpphaa
