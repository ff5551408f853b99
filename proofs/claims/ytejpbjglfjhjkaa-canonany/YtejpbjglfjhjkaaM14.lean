/-
  Words and contracts that the proof leans on.
-/
import Derived.Test.YtejpbjglfjhjkaaM11
import Derived.Test.YtejpbjglfjhjkaaM13
import Derived.Test.YtejpbjglfjhjkaaM9
import Derived.Test.YtejpbjglfjhjkaaM4
namespace Go.Proofs.Ytejpbjglfjhjkaa
open Go.RowKit Go.Shelf
attribute [local go_sem] Oper.semAt_some

/-- A row of numbers in memory. -/
def IsRow (w : World) (g n : Nat) (F : Nat → Int) : Prop := w.rowIs g 3 n (fun c => .int .i64 (F c))
theorem rowIs_kept {W W' : World} {b n : Nat} {t : TypeId} {f : Nat → Value} {row : Option Nat} (h : W.rowIs b t n f) (hg : W.grownBy W' row) (hrow : ∀ r, row = some r → ∃ o : Obj, W.heap[r]? = some o ∧ o.isCells = false) : W'.rowIs b t n f := by
  obtain ⟨c, hb, hr⟩ := h
  refine ⟨c, ?_, hr⟩
  rw [hg.block b (Array.getElem?_eq_some_iff.1 hb).1 (fun e => ?_)]
  · exact hb
  · obtain ⟨o, ho, hc⟩ := hrow b e.symm
    rw [hb] at ho
    cases ho
    cases hc
theorem rowIs_grown {W W' : World} {b n : Nat} {t : TypeId} {f : Nat → Value} {row : Option Nat} (h : W.rowIs b t n f) (hg : W.grownBy W' row) (hne : some b ≠ row) : W'.rowIs b t n f := h.of_block (hg.block b h.lt hne)
theorem grown_more {w W W' : World} {g row : Option Nat} (h : w.grownBy W g) (k : W.grownBy W' row) (hr : ∀ r, row = some r → w.heap.size ≤ r ∨ g = some r) : w.grownBy W' g :=
  ⟨k.os.trans h.os, k.tape.trans h.tape, k.output.trans h.output, Nat.le_trans h.size k.size, fun i hi hne => (k.block i (Nat.lt_of_lt_of_le hi h.size) (fun e => by
    rcases hr i e.symm with h' | h'
    · omega
    · exact hne h'.symm)).trans (h.block i hi hne)⟩
theorem grown_alloc {w W : World} {g : Option Nat} (h : w.grownBy W g) (o : Obj) : w.grownBy (W.alloc o) g := grown_more h (World.grownBy_alloc W o none) (fun r e => by cases e)
theorem grown_set {w W : World} {g : Nat} (h : w.grownBy W (some g)) (i : Nat) (v : Value) : w.grownBy (W.setCell ⟨g, i, none⟩ v) (some g) :=
  ⟨h.os, h.tape, h.output, by simpa using h.size, fun k hk hne => by
    rw [Below.heap_setCell _ _ _ _ (by show k ≠ g; intro e; exact hne (by rw [e]))]
    exact h.block k hk hne⟩
theorem grown_drew {w W : World} {g : Option Nat} (h : w.grownBy W g) : w.grownBy W.drew g := ⟨h.os, h.tape, h.output, h.size, h.block⟩

/-- One number of a row, from the row below it. -/
def stepB (x : Int) (G F : Nat → Int) (p : Nat × Int) : Nat → Int := fun c => if c = p.1 then (if x = p.2 then IntKind.i64.wrap (G (p.1 + 1) + 1) else (if G p.1 < F (p.1 + 1) then F (p.1 + 1) else G p.1)) else F c
/-- What holds between two rounds. -/
def FbI (x : Int) (b : List Int) (h g m c1 c2 : Nat) (G F : Nat → Int) (w : World) (pre : List (AtI b)) (W : World) : Prop :=
  IsRow W g (m + 1) ((pre.map Subtype.val).foldl (stepB x G) F) ∧ IsRow W h (m + 1) G ∧ Boxed W w.heap.size 3 (.int .i64 x) ∧ Boxed W (w.heap.size + 1) 26 (.slice (some ⟨h, 0, none⟩) (m + 1) c1) ∧ Boxed W (w.heap.size + 1 + 1) 26 (.slice (some ⟨g, 0, none⟩) (m + 1) c2) ∧ w.grownBy W (some g)
/-- What a round leaves. -/
def FbP (x : Int) (b : List Int) (h g m c1 c2 B n₀ Bs : Nat) (G F : Nat → Int) (w : World) (pre : List (AtI b)) (W W' : World) : Prop :=
  KeepsFrom B W W' ∧ KpB n₀ Bs W W' ∧ FbI x b h g m c1 c2 G F w pre W'
theorem FbP.drew {x : Int} {b : List Int} {h g m c1 c2 B n₀ Bs : Nat} {G F : Nat → Int} {w W W' : World} {pre : List (AtI b)} (hI : FbP x b h g m c1 c2 B n₀ Bs G F w pre W W') : FbP x b h g m c1 c2 B n₀ Bs G F w pre W W'.drew :=
  ⟨⟨hI.1.1, hI.1.2⟩, ⟨hI.2.1.1.drew, hI.2.1.2⟩, hI.2.2.1, hI.2.2.2.1, hI.2.2.2.2.1, hI.2.2.2.2.2.1, hI.2.2.2.2.2.2.1, grown_drew hI.2.2.2.2.2.2.2⟩

end Go.Proofs.Ytejpbjglfjhjkaa
