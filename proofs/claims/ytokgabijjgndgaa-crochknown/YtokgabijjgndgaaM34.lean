/-
  Words and contracts that the proof leans on.
-/
import Derived.Test.YtokgabijjgndgaaM5
import Derived.Test.YtokgabijjgndgaaM8
namespace Go.Proofs.Ytokgabijjgndgaa
open Go.RowKit

theorem held_lits {P : Program} {md : Region.Mode} {ops : Array Oper} {Q : Exit → Act → World → Prop} {S : World → Prop} {i j fuel : Nat} {o o' : Oper} {listed : Array Bool} {a : Act} {w : World} (v v' : Value) (t t' : TypeId)
    (hr : Region.ready md ops listed = [i, j]) (hr1 : Region.ready md ops (listed.setIfInBounds i true) = [j]) (hr2 : Region.ready md ops (listed.setIfInBounds j true) = [i]) (ho : ops[i]? = some o) (ho' : ops[j]? = some o')
    (hw : Region.wanted o (yielded ops a.tmps) = true) (hw' : Region.wanted o' (yielded ops a.tmps) = true) (hw1 : ∀ x, Region.wanted o' (yielded ops (a.put o.dst x).tmps) = true) (hw2 : ∀ x, Region.wanted o (yielded ops (a.put o'.dst x).tmps) = true)
    (hl : (listed.setIfInBounds j true).setIfInBounds i true = (listed.setIfInBounds i true).setIfInBounds j true) (hp : ∀ x y, (a.put o'.dst y).put o.dst x = (a.put o.dst x).put o'.dst y)
    (hx : ∀ (K : Act → World → Prop) a w, K (a.put o.dst (.slice (some ⟨w.heap.size, 0, none⟩) 1 1)) (w.alloc (.cells #[v] t)) → o.wp P a w K Q) (hx' : ∀ (K : Act → World → Prop) a w, K (a.put o'.dst (.slice (some ⟨w.heap.size, 0, none⟩) 1 1)) (w.alloc (.cells #[v'] t')) → o'.wp P a w K Q)
    (hS : ∀ w', Below w.heap.size w w' → S w')
    (h : ∀ p q w', Row w' (some ⟨p, 0, none⟩) [v] → Row w' (some ⟨q, 0, none⟩) [v'] → Below w.heap.size w w' → wpAnyH P md ops Q S fuel ((listed.setIfInBounds i true).setIfInBounds j true) ((a.put o.dst (.slice (some ⟨p, 0, none⟩) 1 1)).put o'.dst (.slice (some ⟨q, 0, none⟩) 1 1)) w') :
    wpAnyH P md ops Q S (fuel + 1 + 1) listed a w := by
  have b1 : ∀ o : Obj, Below w.heap.size w (w.alloc o) := fun o => below_a1 w o
  have b2 : ∀ o o' : Obj, Below w.heap.size w ((w.alloc o).alloc o') := fun o o' => below_alloc2 w o o'
  refine held_two hr ho ho' hw hw' (hx _ _ _ ⟨hS _ (b1 _), ?_⟩) (hx' _ _ _ ⟨hS _ (b1 _), ?_⟩)
  · refine held_one hr1 ho' (hw1 _) (hx' _ _ _ ⟨hS _ (b2 _ _), ?_⟩)
    exact h _ _ _ (Row.alloc (row_lit0 w [v] t) _) (row_lit0 (w.alloc (.cells #[v] t)) [v'] t') (b2 _ _)
  · refine held_one hr2 ho (hw2 _) (hx _ _ _ ⟨hS _ (b2 _ _), ?_⟩)
    rw [hl, hp]
    exact h _ _ _ (row_lit0 (w.alloc (.cells #[v'] t')) [v] t) (Row.alloc (row_lit0 w [v'] t') _) (b2 _ _)

end Go.Proofs.Ytokgabijjgndgaa
