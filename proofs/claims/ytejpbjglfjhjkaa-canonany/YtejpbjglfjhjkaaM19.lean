/-
  Words and contracts that the proof leans on.
-/
import Derived.Test.YtejpbjglfjhjkaaM3
import Derived.Test.YtejpbjglfjhjkaaM4
import Derived.Test.YtejpbjglfjhjkaaM13
import Derived.Test.YtejpbjglfjhjkaaM14
import Derived.Maps.AppendAt
import Derived.OneCell
namespace Go.Proofs.Ytejpbjglfjhjkaa
open Go.RowKit

theorem below_grown {w w' : World} (h : Below w.heap.size w w') (r : Option Nat) : w.grownBy w' r := ⟨h.os, h.tape, h.output, h.size, fun k hk _ => h.block k hk⟩
theorem grown_belowOwnG {w w' : World} {r : Option Nat} (h : w.grownBy w' r) {B : Nat} (hB : B ≤ w.heap.size) (hr : ∀ k, r = some k → B ≤ k) : Below B w w' := (Below.refl _ _).grown h hB (fun k e => hr k e)

/-- A row that has grown. -/
def Own (base : Nat) (v0 : Value) (L : List Pr) (w : World) (v : Value) (w' : World) : Prop :=
  w'.ownsRow base 28 2 v L.length (pv L) ∧ w.grownBy w' v0.ownBlock ∧ (v.ownBlock = v0.ownBlock ∨ ∃ k, v.ownBlock = some k ∧ w.heap.size ≤ k)
def Ext (base : Nat) (v0 : Value) (L : List Pr) (w : World) (e : Ending) (w' : World) : Prop := ∃ v, e = .returned v ∧ Own base v0 L w v w'
theorem Own.refl {base : Nat} {v0 : Value} {L : List Pr} {w : World} (h : w.ownsRow base 28 2 v0 L.length (pv L)) : Own base v0 L w v0 w := ⟨h, World.grownBy.refl _ _, .inl rfl⟩
/-- Grown once more. -/
theorem Own.step {base : Nat} {v0 v v' : Value} {L L' : List Pr} {w w1 w2 : World} (h : Own base v0 L w v w1) (h' : Own base v L' w1 v' w2) : Own base v0 L' w v' w2 := by
  obtain ⟨a1, a2, a3⟩ := h
  obtain ⟨b1, b2, b3⟩ := h'
  refine ⟨b1, grown_more a2 b2 (fun r e => ?_), ?_⟩
  · rcases a3 with a3 | ⟨k, a3, a4⟩
    · rw [a3] at e; exact .inr e
    · rw [a3] at e; injection e with e; exact .inl (by omega)
  · rcases b3 with b3 | ⟨k, b3, b4⟩
    · rw [b3]; exact a3
    · exact .inr ⟨k, b3, Nat.le_trans a2.size b4⟩
/-- A call that leaves what was there. -/
theorem Own.call {base : Nat} {v0 v : Value} {L : List Pr} {w w1 w2 : World} (h : Own base v0 L w v w1) (hb : Below w1.heap.size w1 w2) : Own base v0 L w v w2 :=
  ⟨own_belowS h.1 hb (Nat.le_refl _), grown_more h.2.1 (below_grown hb none) (fun r e => by cases e), h.2.2⟩
theorem Own.alloc {base : Nat} {v0 v : Value} {L : List Pr} {w w1 : World} (h : Own base v0 L w v w1) (o : Obj) : Own base v0 L w v (w1.alloc o) := h.call ((Below.refl _ _).alloc (Nat.le_refl _) _)
theorem Own.drew {base : Nat} {v0 v : Value} {L : List Pr} {w w1 : World} (h : Own base v0 L w v w1) : Own base v0 L w v w1.drew := ⟨h.1, grown_drew h.2.1, h.2.2⟩
theorem Own.drewN {base : Nat} {v0 v : Value} {L : List Pr} {w w1 : World} (h : Own base v0 L w v w1) (q : Nat) : Own base v0 L w v (w1.drewN q) := h.call (below_drewN (Below.refl _ _) q)
/-- One pair more. -/
theorem own_app {base : Nat} {v v' : Value} {M : List Pr} {x y : Int} {wa w' : World} (h2 : w'.ownsRow base 28 2 v' (M.length + 1) (pv M ++ [.int .i64 x, .int .i64 y])) (h3 : wa.grownBy w' v.ownBlock) (h5 : v'.ownBlock = v.ownBlock ∨ v'.ownBlock = some wa.heap.size) : Own base v (M ++ [(x, y)]) wa v' w' := by
  refine ⟨?_, h3, h5.imp id fun e => ⟨_, e, Nat.le_refl _⟩⟩
  rw [pv_append, List.length_append]
  exact h2
def lenV : Value → Nat
  | .slice _ n _ => n
  | _ => 0
theorem Own.set {base : Nat} {v0 v : Value} {L : List Pr} {w w1 : World} (h : Own base v0 L w v w1) {P i : Nat} (hP : w.heap.size ≤ P) (hne : v.ownBlock ≠ some P) (x : Value) : Own base v0 L w v (w1.setCell ⟨P, i, none⟩ x) :=
  ⟨ownsRow_setCell_other h.1 hne x, grown_setS h.2.1 (.inr hP), h.2.2⟩
theorem Own.below {v0 v : Value} {L L0 : List Pr} {w w1 w0 : World} (h : Own w0.heap.size v0 L w v w1) (h0 : Below w0.heap.size w0 w) (ho : w.ownsRow w0.heap.size 28 2 v0 L0.length (pv L0)) : Below w0.heap.size w0 w1 :=
  h0.grown h.2.1 h0.size (fun k e => (ho.lt k e).1)

end Go.Proofs.Ytejpbjglfjhjkaa
