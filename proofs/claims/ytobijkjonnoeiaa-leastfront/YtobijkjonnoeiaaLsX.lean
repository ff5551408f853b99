/-
  Words for package least's extend: pieces of a list, a variable that is a pair, a row that grows.
-/
import Derived.Test.YtobijkjonnoeiaaLsT
import Derived.Test.YtobijkjonnoeiaaLsM
import Derived.Maps.AppendAt
import Derived.OneCell
namespace Go.Proofs.Ytobijkjonnoeiaa
open Go.RowKit

theorem iv_dropX (l : List Int) (k : Nat) : (iv l).drop k = iv (l.drop k) := by simp [iv, List.map_drop]
theorem iv_takeX (l : List Int) (k : Nat) : (iv l).take k = iv (l.take k) := by simp [iv, List.map_take]

theorem size_int (w : World) : (sizeOf (Try.prog.elem 24)).run Try.prog w = .ok 1 w := by
  rfl

/-- l[lo:]. -/
theorem slice_from (A : Option Addr) (n c lo : Nat) (l : List Int) (w0 : World) (h : Row w0 A (iv l)) (hn : l.length = n) (hc : n ≤ c) (hlo : lo ≤ n) :
    ∃ A' c', (∀ w, (Instr.sliceAt 24 (.slice A n c) (some (.int .i64 (lo : Int))) none none).run Try.prog w = .ok (.slice A' (n - lo) c') w) ∧ n - lo ≤ c' ∧ Row w0 A' (iv (l.drop lo)) := by
  refine ⟨if c = lo then A else A.map (·.add (lo * 1)), c - lo, fun w => ?_, by omega, ?_⟩
  · rw [run_sliceAt_slice w 24 _ _ _ _ Try.underlying24, run_slice_l w 24 A n c Try.underlying24 .i64 (lo : Int) (by omega) (by omega), size_int]
    simp [Result.andThen, sliced]
  · have := h.cut lo n c hlo (by rw [iv_length]; omega) (by rw [iv_length]; omega)
    rw [iv_dropX, List.take_of_length_le (by rw [iv_length, List.length_drop]; omega)] at this
    rw [Nat.mul_one]
    exact this
/-- l[:hi]. -/
theorem slice_to (A : Option Addr) (n c hi : Nat) (l : List Int) (w0 : World) (h : Row w0 A (iv l)) (hhi : hi ≤ c) :
    (∀ w, (Instr.sliceAt 24 (.slice A n c) none (some (.int .i64 (hi : Int))) none).run Try.prog w = .ok (.slice A hi c) w) ∧ Row w0 A (iv (l.take hi)) := by
  refine ⟨fun w => ?_, ?_⟩
  · rw [run_sliceAt_slice w 24 _ _ _ _ Try.underlying24, run_slice_h w 24 A n c Try.underlying24 .i64 (hi : Int) (by omega) (by omega), size_int]
    cases A <;> simp [Result.andThen, sliced, Addr.add]
  · rw [← iv_takeX]
    exact h.take hi

theorem below_grown {w w' : World} (h : Below w.heap.size w w') (r : Option Nat) : w.grownBy w' r := ⟨h.os, h.tape, h.output, h.size, fun k hk _ => h.block k hk⟩
theorem grown_below {w w' : World} {r : Option Nat} (h : w.grownBy w' r) {B : Nat} (hB : B ≤ w.heap.size) (hr : ∀ k, r = some k → B ≤ k) : Below B w w' := (Below.refl _ _).grown h hB (fun k e => hr k e)

/-- A variable that is a pair. -/
def BxP (w : World) (P : Nat) (c : Pr) : Prop := w.rowIs P 26 2 (cv fun _ => c)
theorem BxP.cells {w : World} {P : Nat} {c : Pr} (h : BxP w P c) : w.cell? ⟨P, 0, none⟩ = some (.int .i64 c.1) ∧ w.cell? ⟨P, 1, none⟩ = some (.int .i64 c.2) ∧ w.frozen? ⟨P, 0, none⟩ = false ∧ w.frozen? ⟨P, 1, none⟩ = false :=
  ⟨World.rowIs.cell h (by omega), World.rowIs.cell h (by omega), World.rowIs.frozen h 0, World.rowIs.frozen h 1⟩
theorem BxP.set {w : World} {P : Nat} {c : Pr} (h : BxP w P c) (x y : Int) : BxP ((w.setCell ⟨P, 0, none⟩ (.int .i64 x)).setCell ⟨P, 1, none⟩ (.int .i64 y)) P (x, y) := by
  refine World.rowIs.congr (World.rowIs.set (World.rowIs.set h 0 _) 1 _) fun i hi => ?_
  have : i = 0 ∨ i = 1 := by omega
  rcases this with rfl | rfl <;> rfl
theorem BxP.grown {w w' : World} {P : Nat} {c : Pr} {r : Option Nat} (h : BxP w P c) (hg : w.grownBy w' r) (hne : some P ≠ r) : BxP w' P c := rowIs_grown h hg hne
theorem bxP_new (w : World) (x y : Int) : BxP (w.alloc (.cells #[.int .i64 x, .int .i64 y] 26)) w.heap.size (x, y) := by
  refine World.rowIs_alloc w _ _ _ fun i hi => ?_
  have : i = 0 ∨ i = 1 := by simp at hi; omega
  rcases this with rfl | rfl <;> rfl

/-- A row that has grown. -/
def Own (base : Nat) (v0 : Value) (L : List Pr) (w : World) (v : Value) (w' : World) : Prop :=
  w'.ownsRow base 26 2 v L.length (pv L) ∧ w.grownBy w' v0.ownBlock ∧ (v.ownBlock = v0.ownBlock ∨ ∃ k, v.ownBlock = some k ∧ w.heap.size ≤ k)
def Ext (base : Nat) (v0 : Value) (L : List Pr) (w : World) (e : Ending) (w' : World) : Prop := ∃ v, e = .returned v ∧ Own base v0 L w v w'
theorem Own.refl {base : Nat} {v0 : Value} {L : List Pr} {w : World} (h : w.ownsRow base 26 2 v0 L.length (pv L)) : Own base v0 L w v0 w := ⟨h, World.grownBy.refl _ _, .inl rfl⟩
/-- Grown once more. -/
theorem Own.step {base : Nat} {v0 v v' : Value} {L L' : List Pr} {w w1 w2 : World} (h : Own base v0 L w v w1) (h' : Own base v L' w1 v' w2) : Own base v0 L' w v' w2 := by
  obtain ⟨a1, a2, a3⟩ := h
  obtain ⟨b1, b2, b3⟩ := h'
  refine ⟨b1, grown_more a2 b2 (fun r e => ?_), ?_⟩
  · rcases a3 with a3 | ⟨k, a3, a4⟩
    · rw [a3] at e; exact .inr e
    · rw [a3] at e; injection e with e; exact .inl (by omega)
  · rcases b3 with b3 | ⟨k, b3, b4⟩
    · rw [b3]; exact a3
    · exact .inr ⟨k, b3, Nat.le_trans a2.size b4⟩
/-- A call that leaves what was there. -/
theorem Own.call {base : Nat} {v0 v : Value} {L : List Pr} {w w1 w2 : World} (h : Own base v0 L w v w1) (hb : Below w1.heap.size w1 w2) : Own base v0 L w v w2 :=
  ⟨own_belowS h.1 hb (Nat.le_refl _), grown_more h.2.1 (below_grown hb none) (fun r e => by cases e), h.2.2⟩
theorem Own.alloc {base : Nat} {v0 v : Value} {L : List Pr} {w w1 : World} (h : Own base v0 L w v w1) (o : Obj) : Own base v0 L w v (w1.alloc o) := h.call ((Below.refl _ _).alloc (Nat.le_refl _) _)
theorem Own.drew {base : Nat} {v0 v : Value} {L : List Pr} {w w1 : World} (h : Own base v0 L w v w1) : Own base v0 L w v w1.drew := ⟨h.1, grown_drew h.2.1, h.2.2⟩
theorem Own.drewN {base : Nat} {v0 v : Value} {L : List Pr} {w w1 : World} (h : Own base v0 L w v w1) (q : Nat) : Own base v0 L w v (w1.drewN q) := h.call (below_drewN (Below.refl _ _) q)
/-- One pair more. -/
theorem own_app {base : Nat} {v v' : Value} {M : List Pr} {x y : Int} {wa w' : World} (h2 : w'.ownsRow base 26 2 v' (M.length + 1) (pv M ++ [.int .i64 x, .int .i64 y])) (h3 : wa.grownBy w' v.ownBlock) (h5 : v'.ownBlock = v.ownBlock ∨ v'.ownBlock = some wa.heap.size) : Own base v (M ++ [(x, y)]) wa v' w' := by
  refine ⟨?_, h3, h5.imp id fun e => ⟨_, e, Nat.le_refl _⟩⟩
  rw [pv_append, List.length_append]
  exact h2
def lenV : Value → Nat
  | .slice _ n _ => n
  | _ => 0
theorem Own.set {base : Nat} {v0 v : Value} {L : List Pr} {w w1 : World} (h : Own base v0 L w v w1) {P i : Nat} (hP : w.heap.size ≤ P) (hne : v.ownBlock ≠ some P) (x : Value) : Own base v0 L w v (w1.setCell ⟨P, i, none⟩ x) :=
  ⟨ownsRow_setCell_other h.1 hne x, grown_setS h.2.1 (.inr hP), h.2.2⟩
theorem Own.below {v0 v : Value} {L L0 : List Pr} {w w1 w0 : World} (h : Own w0.heap.size v0 L w v w1) (h0 : Below w0.heap.size w0 w) (ho : w.ownsRow w0.heap.size 26 2 v0 L0.length (pv L0)) : Below w0.heap.size w0 w1 :=
  h0.grown h.2.1 h0.size (fun k e => (ho.lt k e).1)

end Go.Proofs.Ytobijkjonnoeiaa
