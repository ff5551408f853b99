/-
  Words and contracts that the proof leans on.
-/
import Derived.RangeFuncNested
import Derived.RangeFuncBox
import Derived.RangeFuncBound
import Derived.RangeFuncCalls
import Derived.RangeFuncLeaves
import Derived.Shelf.Abstract
import Derived.Shelf.RegionOpen
import Derived.WalkKit
import Derived.OwnWalkIn
import Derived.TacticsInMore
import Derived.LoopNIn
import Derived.LoopIn
import Derived.Test.YtejpbjglfjhjkaaM3
namespace Go.Proofs.Ytejpbjglfjhjkaa
open Go.RowKit Go.Shelf
attribute [local go_sem] Oper.semAt_some

/-- A place of a list, and what stands there. -/
abbrev AtI (zs : List Int) := { p : Nat × Int // zs[p.1]? = some p.2 }
def encI {zs : List Int} (x : AtI zs) : Array Value := #[.int .i64 (x.1.1 : Int), .int .i64 x.1.2]
/-- What has come when k rounds from the end on are over. -/
def backs (zs : List Int) (k : Nat) : List (Nat × Int) := (List.range k).map fun i => (zs.length - 1 - i, zs[zs.length - 1 - i]?.getD 0)
theorem backs_succ (zs : List Int) {j k : Nat} (h : j + k + 1 = zs.length) {x : Int} (hx : zs[j]? = some x) : backs zs (k + 1) = backs zs k ++ [(j, x)] := by
  unfold backs
  rw [List.range_succ, List.map_append, List.map_singleton, show zs.length - 1 - k = j by omega, hx]
  rfl
def BackS (zs : List Int) (xs : List (AtI zs)) : Prop := xs.map Subtype.val = backs zs zs.length
/-- What a round keeps. -/
def KpB (n₀ Bs : Nat) (W W' : World) : Prop := Below n₀ W W' ∧ W'.heap[Bs]? = W.heap[Bs]?
theorem kpB_t {n₀ Bs : Nat} {A B C : World} (h : KpB n₀ Bs A B) (k : KpB n₀ Bs B C) : KpB n₀ Bs A C := ⟨h.1.trans k.1, k.2.trans h.2⟩
theorem kpB_b {n₀ Bs : Nat} {w : World} (hn : n₀ ≤ w.heap.size) (hB : Bs < w.heap.size) (W : World) (l : Nat) (o o' : Obj) (hl : w.heap.size ≤ l) (h : W.heap[l]? = some o) (h1 : o.isCells = false) (h2 : o.isWalk = false) : KpB n₀ Bs W (W.putObj l o') :=
  ⟨belowK_b hn W l o o' hl h h1 h2, World.putObj_heap_other (by omega)⟩

/-- The head of a round. -/
def BackRel (A : Option Addr) (N c Bs : Nat) (zs : List Int) (w0 : World) (J : List (AtI zs) → World → Prop) (i : Value) (wr : World) : Prop :=
  (∃ (j k : Nat) (pre : List (AtI zs)), j + k + 1 = zs.length ∧ i = .int .i64 (j : Int) ∧ pre.map Subtype.val = backs zs k ∧ J pre wr ∧ Below w0.heap.size w0 wr ∧ wr.cell? ⟨Bs, 0, none⟩ = some (.slice A N c)) ∨
  (i = .int .i64 (-1) ∧ ∃ pre, BackS zs pre ∧ J pre wr)
theorem back_start {A : Option Addr} {N c Bs : Nat} {zs : List Int} {w0 wr : World} {J : List (AtI zs) → World → Prop} {x : Int} (hx : x = (N : Int) - 1) (hN : zs.length = N) (h0 : J [] wr) (hb : Below w0.heap.size w0 wr) (hc : wr.cell? ⟨Bs, 0, none⟩ = some (.slice A N c)) : BackRel A N c Bs zs w0 J (.int .i64 x) wr := by
  subst hx
  cases N with
  | zero => exact .inr ⟨by simp, [], by unfold BackS; rw [hN]; rfl, h0⟩
  | succ m => exact .inl ⟨m, 0, [], by omega, by congr 1; omega, rfl, h0, hb, hc⟩
theorem back_next {A : Option Addr} {N c Bs : Nat} {zs : List Int} {w0 wr : World} {J : List (AtI zs) → World → Prop} {j k : Nat} {pre : List (AtI zs)} {x : AtI zs} {y : Int} (hj : j + k + 1 = zs.length) (hx : x.1.1 = j) (hp : pre.map Subtype.val = backs zs k) (hy : y = (j : Int) - 1) (hJ : J (pre ++ [x]) wr) (hb : Below w0.heap.size w0 wr) (hc : wr.cell? ⟨Bs, 0, none⟩ = some (.slice A N c)) : BackRel A N c Bs zs w0 J (.int .i64 y) wr := by
  subst hy
  have e : (pre ++ [x]).map Subtype.val = backs zs (k + 1) := by
    rw [backs_succ zs hj (x := x.1.2) (by rw [← hx]; exact x.2), List.map_append, hp, ← hx]
    rfl
  cases j with
  | zero => exact .inr ⟨by simp, _, by unfold BackS; rw [e]; congr 1; omega, hJ⟩
  | succ j => exact .inl ⟨j, k + 1, _, by omega, by congr 1; omega, e, hJ, hb, hc⟩

set_option maxRecDepth 100000 in
set_option maxHeartbeats 2000000 in
theorem back1_in (n : Nat) (hn : 1 ≤ n) (l Bs : Nat) (A : Option Addr) (N c : Nat) (zs : List Int) (w0 : World) (hN : zs.length = N) (hm : N ≤ 1048576) (hr : Row w0 A (iv zs)) (J Jx : List (AtI zs) → World → Prop)
    (hY : ∀ pre x W, J pre W → pre.length < N → YieldAt Fence.wide (n - 1) Try.prog l (encI x) W fun e W' =>
      (e = .returned (.bool true) ∧ J (pre ++ [x]) W' ∧ KpB w0.heap.size Bs W W') ∨ (e = .returned (.bool false) ∧ Jx (pre ++ [x]) W'))
    (W : World) (hW : Below w0.heap.size w0 W) (hBs : W.cell? ⟨Bs, 0, none⟩ = some (.slice A N c)) (h0 : J [] W) :
    CallsIn Fence.wide n Try.prog 40 #[.func (.yield l) #[] #[], .pointer (some ⟨Bs, 0, none⟩)] W fun e W' => (∃ v, e = .returned v) ∧
      ((∃ ys, BackS zs ys ∧ J ys W') ∨ (∃ pre, True ∧ Jx pre W')) := by
  have HN := Lib.hid hN
  clear hN
  refine callsIn_of_wp Try.func40 rfl trivial ?_ rfl
  simp only [Try.ntmps40, List.size_toArray, List.length_cons, List.length_nil, Nat.reduceAdd, Nat.reduceSub, Array.replicate_succ, Array.replicate_zero, List.push_toArray, List.append_toArray, List.nil_append, List.cons_append]
  gi_wp2
  gi_loopw [3] (fun i wr => BackRel A N c Bs zs w0 J i wr) (fun i _ => (intOf i + 1).toNat)
  case atStart => exact back_start (by omega) HN.out h0 hW hBs
  case round =>
    clear h0 hW hBs
    rcases hrel with ⟨j, k, pre, hj, rfl, hp, hJ, hB, hc⟩ | ⟨rfl, pre, hS, hJ⟩
    · have hjl : j < zs.length := by omega
      have hjN : j < N := by rw [← HN.out]; exact hjl
      have hlen : pre.length < N := by
        have := congrArg List.length hp
        simp [backs] at this
        rw [← HN.out]
        omega
      obtain ⟨g, o, rfl, hd⟩ := (hr.below hB).int hjl
      have HX : zs[j]? = some zs[j] := List.getElem?_eq_getElem hjl
      obtain ⟨fn, tmps, assign, body, hy, hR⟩ := hY pre ⟨(j, zs[j]), HX⟩ wr hJ hlen
      dsimp only [encI] at hy
      generalize zs[j] = z at *
      have HJ := Lib.hid hj
      clear hj hr hJ
      gi_wp2
      refine hR.mono ?_
      rintro e W3 (⟨rfl, hJ3, hk3⟩ | ⟨rfl, hJx3⟩)
      · have hc3 : W3.cell? ⟨Bs, 0, none⟩ = some (.slice (some ⟨g, o, none⟩) N c) := (World.cell?_of_block (a := ⟨Bs, 0, none⟩) hk3.2).trans hc
        clear hc hd hy hR
        gi_wp2
        go_roundw
        case rel => exact back_next HJ.out rfl hp (by omega) hJ3 (hB.trans hk3.1) hc3
        case measure => simp [intOf]
      · gi_wp2
        refine bodyPost_ret (results_none rfl _ _ _) rfl ?_
        exact ⟨⟨_, rfl⟩, .inr ⟨_, trivial, hJx3⟩⟩
    · gi_wp2
      go_end0
      exact ⟨⟨_, rfl⟩, .inl ⟨_, hS, hJ⟩⟩

/-- slices.Backward(s): the slice is boxed; the function captures the box. -/
theorem back_in (n : Nat) (A : Option Addr) (N c : Nat) (w : World) :
    CallsIn Fence.wide n Try.prog 38 #[.slice A N c] w fun e w' => e = .returned (.func (.func 40) #[] #[.pointer (some ⟨w.heap.size, 0, none⟩)]) ∧ w' = w.alloc (.cells #[.slice A N c] 26) := by
  refine callsIn_of_wp Try.func38 rfl trivial ?_ rfl
  simp only [Try.ntmps38, List.size_toArray, List.length_cons, List.length_nil, Nat.reduceAdd, Nat.reduceSub, Array.replicate_succ, Array.replicate_zero, List.push_toArray, List.append_toArray, List.nil_append, List.cons_append]
  gi_wp2
  go_ret
  exact ⟨rfl, rfl⟩

theorem back_stops (n : Nat) (hn : 1 ≤ n) (Bs : Nat) (A : Option Addr) (N c : Nat) (zs : List Int) (w0 w : World) (hN : zs.length = N) (hm : N ≤ 1048576) (hr : Row w0 A (iv zs)) (h0 : Below w0.heap.size w0 w) (hb : Boxed w Bs 26 (.slice A N c)) :
    SeqStopsK Fence.wide n Try.prog 40 #[.pointer (some ⟨Bs, 0, none⟩)] (encI (zs := zs)) (KpB w0.heap.size Bs) (BackS zs) (fun _ => True) N w := fun l J Jx W hW _ _ hY h =>
  back1_in n hn l Bs A N c zs w0 hN hm hr J Jx hY W (h0.trans (hW.mono h0.size)) ((hW.cell (p := ⟨Bs, 0, none⟩) hb.lt).trans hb.cell) h

end Go.Proofs.Ytejpbjglfjhjkaa
