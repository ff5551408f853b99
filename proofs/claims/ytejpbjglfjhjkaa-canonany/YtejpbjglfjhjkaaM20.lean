/-
  Words and contracts that the proof leans on.
-/
import Derived.Test.YtejpbjglfjhjkaaM16
import Derived.Test.YtejpbjglfjhjkaaM18
import Derived.Test.YtejpbjglfjhjkaaM5
import Derived.Test.YtejpbjglfjhjkaaM19
namespace Go.Proofs.Ytejpbjglfjhjkaa
open Go.RowKit

/-- A variable that is a pair. -/
def BxP (w : World) (P : Nat) (c : Pr) : Prop := w.rowIs P 28 2 (cv fun _ => c)
theorem BxP.cells {w : World} {P : Nat} {c : Pr} (h : BxP w P c) : w.cell? ⟨P, 0, none⟩ = some (.int .i64 c.1) ∧ w.cell? ⟨P, 1, none⟩ = some (.int .i64 c.2) ∧ w.frozen? ⟨P, 0, none⟩ = false ∧ w.frozen? ⟨P, 1, none⟩ = false :=
  ⟨World.rowIs.cell h (by omega), World.rowIs.cell h (by omega), World.rowIs.frozen h 0, World.rowIs.frozen h 1⟩
theorem BxP.set {w : World} {P : Nat} {c : Pr} (h : BxP w P c) (x y : Int) : BxP ((w.setCell ⟨P, 0, none⟩ (.int .i64 x)).setCell ⟨P, 1, none⟩ (.int .i64 y)) P (x, y) := by
  refine World.rowIs.congr (World.rowIs.set (World.rowIs.set h 0 _) 1 _) fun i hi => ?_
  have : i = 0 ∨ i = 1 := by omega
  rcases this with rfl | rfl <;> rfl
theorem BxP.grown {w w' : World} {P : Nat} {c : Pr} {r : Option Nat} (h : BxP w P c) (hg : w.grownBy w' r) (hne : some P ≠ r) : BxP w' P c := rowIs_grown h hg hne
theorem bxP_new (w : World) (x y : Int) : BxP (w.alloc (.cells #[.int .i64 x, .int .i64 y] 28)) w.heap.size (x, y) := by
  refine World.rowIs_alloc w _ _ _ fun i hi => ?_
  have : i = 0 ∨ i = 1 := by simp at hi; omega
  rcases this with rfl | rfl <;> rfl

end Go.Proofs.Ytejpbjglfjhjkaa
