/-
  Words and contracts that the proof leans on.
-/
import Derived.RangeFuncNested
import Derived.RangeFuncBox
import Derived.RangeFuncBound
import Derived.RangeFuncCalls
import Derived.RangeFuncLeaves
import Derived.Shelf.Abstract
import Derived.Shelf.RegionOpen
import Derived.WalkKit
import Derived.OwnWalkIn
import Derived.TacticsInMore
import Derived.LoopNIn
import Derived.LoopIn
import Derived.Test.YthpinbmimgojnaaM3
namespace Go.Proofs.Ythpinbmimgojnaa
open Go.RowKit Go.Shelf
attribute [local go_sem] Oper.semAt_some

/-- A place of a list, and what stands there. -/
abbrev AtI (zs : List Int) := { p : Nat × Int // zs[p.1]? = some p.2 }
def encI {zs : List Int} (x : AtI zs) : Array Value := #[.int .i64 (x.1.1 : Int), .int .i64 x.1.2]
/-- What has come when k rounds from the end on are over. -/
def backs (zs : List Int) (k : Nat) : List (Nat × Int) := (List.range k).map fun i => (zs.length - 1 - i, zs[zs.length - 1 - i]?.getD 0)
theorem backs_succ (zs : List Int) {j k : Nat} (h : j + k + 1 = zs.length) {x : Int} (hx : zs[j]? = some x) : backs zs (k + 1) = backs zs k ++ [(j, x)] := by
  unfold backs
  rw [List.range_succ, List.map_append, List.map_singleton, show zs.length - 1 - k = j by omega, hx]
  rfl
def BackS (zs : List Int) (xs : List (AtI zs)) : Prop := xs.map Subtype.val = backs zs zs.length
/-- What a round keeps. -/
def KpB (n₀ Bs : Nat) (W W' : World) : Prop := Below n₀ W W' ∧ W'.heap[Bs]? = W.heap[Bs]?
theorem kpB_t {n₀ Bs : Nat} {A B C : World} (h : KpB n₀ Bs A B) (k : KpB n₀ Bs B C) : KpB n₀ Bs A C := ⟨h.1.trans k.1, k.2.trans h.2⟩
theorem kpB_b {n₀ Bs : Nat} {w : World} (hn : n₀ ≤ w.heap.size) (hB : Bs < w.heap.size) (W : World) (l : Nat) (o o' : Obj) (hl : w.heap.size ≤ l) (h : W.heap[l]? = some o) (h1 : o.isCells = false) (h2 : o.isWalk = false) : KpB n₀ Bs W (W.putObj l o') :=
  ⟨belowK_b hn W l o o' hl h h1 h2, World.putObj_heap_other (by omega)⟩

/-- The head of a round. -/
def BackRel (A : Option Addr) (N c Bs : Nat) (zs : List Int) (w0 : World) (J : List (AtI zs) → World → Prop) (i : Value) (wr : World) : Prop :=
  (∃ (j k : Nat) (pre : List (AtI zs)), j + k + 1 = zs.length ∧ i = .int .i64 (j : Int) ∧ pre.map Subtype.val = backs zs k ∧ J pre wr ∧ Below w0.heap.size w0 wr ∧ wr.cell? ⟨Bs, 0, none⟩ = some (.slice A N c)) ∨
  (i = .int .i64 (-1) ∧ ∃ pre, BackS zs pre ∧ J pre wr)
theorem back_start {A : Option Addr} {N c Bs : Nat} {zs : List Int} {w0 wr : World} {J : List (AtI zs) → World → Prop} {x : Int} (hx : x = (N : Int) - 1) (hN : zs.length = N) (h0 : J [] wr) (hb : Below w0.heap.size w0 wr) (hc : wr.cell? ⟨Bs, 0, none⟩ = some (.slice A N c)) : BackRel A N c Bs zs w0 J (.int .i64 x) wr := by
  subst hx
  cases N with
  | zero => exact .inr ⟨by simp, [], by unfold BackS; rw [hN]; rfl, h0⟩
  | succ m => exact .inl ⟨m, 0, [], by omega, by congr 1; omega, rfl, h0, hb, hc⟩
theorem back_next {A : Option Addr} {N c Bs : Nat} {zs : List Int} {w0 wr : World} {J : List (AtI zs) → World → Prop} {j k : Nat} {pre : List (AtI zs)} {x : AtI zs} {y : Int} (hj : j + k + 1 = zs.length) (hx : x.1.1 = j) (hp : pre.map Subtype.val = backs zs k) (hy : y = (j : Int) - 1) (hJ : J (pre ++ [x]) wr) (hb : Below w0.heap.size w0 wr) (hc : wr.cell? ⟨Bs, 0, none⟩ = some (.slice A N c)) : BackRel A N c Bs zs w0 J (.int .i64 y) wr := by
  subst hy
  have e : (pre ++ [x]).map Subtype.val = backs zs (k + 1) := by
    rw [backs_succ zs hj (x := x.1.2) (by rw [← hx]; exact x.2), List.map_append, hp, ← hx]
    rfl
  cases j with
  | zero => exact .inr ⟨by simp, _, by unfold BackS; rw [e]; congr 1; omega, hJ⟩
  | succ j => exact .inl ⟨j, k + 1, _, by omega, by congr 1; omega, e, hJ, hb, hc⟩

end Go.Proofs.Ythpinbmimgojnaa
