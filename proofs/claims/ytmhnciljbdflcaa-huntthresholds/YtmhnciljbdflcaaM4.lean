/-
  Words and contracts that the proof leans on.
-/
import Derived.RangeFuncNested
import Derived.RangeFuncBox
import Derived.RangeFuncBound
import Derived.RangeFuncCalls
import Derived.RangeFuncLeaves
import Derived.Shelf.Abstract
import Derived.Shelf.RegionOpen
import Derived.WalkKit
import Derived.OwnWalkIn
import Derived.TacticsInMore
import Derived.LoopNIn
import Derived.LoopIn
import Derived.Test.YtmhnciljbdflcaaM3
namespace Go.Proofs.Ytmhnciljbdflcaa
open Go.RowKit Go.Shelf
attribute [local go_sem] Oper.semAt_some

/-- A place of a list, and what stands there. -/
abbrev AtI (zs : List Int) := { p : Nat × Int // zs[p.1]? = some p.2 }
def encI {zs : List Int} (x : AtI zs) : Array Value := #[.int .i64 (x.1.1 : Int), .int .i64 x.1.2]
/-- What has come when k rounds from the end on are over. -/
def backs (zs : List Int) (k : Nat) : List (Nat × Int) := (List.range k).map fun i => (zs.length - 1 - i, zs[zs.length - 1 - i]?.getD 0)
theorem backs_succ (zs : List Int) {j k : Nat} (h : j + k + 1 = zs.length) {x : Int} (hx : zs[j]? = some x) : backs zs (k + 1) = backs zs k ++ [(j, x)] := by
  unfold backs
  rw [List.range_succ, List.map_append, List.map_singleton, show zs.length - 1 - k = j by omega, hx]
  rfl
def BackS (zs : List Int) (xs : List (AtI zs)) : Prop := xs.map Subtype.val = backs zs zs.length
/-- What a round keeps. -/
def KpB (n₀ Bs : Nat) (W W' : World) : Prop := Below n₀ W W' ∧ W'.heap[Bs]? = W.heap[Bs]?
theorem kpB_t {n₀ Bs : Nat} {A B C : World} (h : KpB n₀ Bs A B) (k : KpB n₀ Bs B C) : KpB n₀ Bs A C := ⟨h.1.trans k.1, k.2.trans h.2⟩
theorem kpB_b {n₀ Bs : Nat} {w : World} (hn : n₀ ≤ w.heap.size) (hB : Bs < w.heap.size) (W : World) (l : Nat) (o o' : Obj) (hl : w.heap.size ≤ l) (h : W.heap[l]? = some o) (h1 : o.isCells = false) (h2 : o.isWalk = false) : KpB n₀ Bs W (W.putObj l o') :=
  ⟨belowK_b hn W l o o' hl h h1 h2, World.putObj_heap_other (by omega)⟩

/-- The head of a round. -/
def BackRel (A : Option Addr) (N c Bs : Nat) (zs : List Int) (w0 : World) (J : List (AtI zs) → World → Prop) (i : Value) (wr : World) : Prop :=
  (∃ (j k : Nat) (pre : List (AtI zs)), j + k + 1 = zs.length ∧ i = .int .i64 (j : Int) ∧ pre.map Subtype.val = backs zs k ∧ J pre wr ∧ Below w0.heap.size w0 wr ∧ wr.cell? ⟨Bs, 0, none⟩ = some (.slice A N c)) ∨
  (i = .int .i64 (-1) ∧ ∃ pre, BackS zs pre ∧ J pre wr)
theorem back_start {A : Option Addr} {N c Bs : Nat} {zs : List Int} {w0 wr : World} {J : List (AtI zs) → World → Prop} {x : Int} (hx : x = (N : Int) - 1) (hN : zs.length = N) (h0 : J [] wr) (hb : Below w0.heap.size w0 wr) (hc : wr.cell? ⟨Bs, 0, none⟩ = some (.slice A N c)) : BackRel A N c Bs zs w0 J (.int .i64 x) wr := by
  subst hx
  cases N with
  | zero => exact .inr ⟨by simp, [], by unfold BackS; rw [hN]; rfl, h0⟩
  | succ m => exact .inl ⟨m, 0, [], by omega, by congr 1; omega, rfl, h0, hb, hc⟩
theorem back_next {A : Option Addr} {N c Bs : Nat} {zs : List Int} {w0 wr : World} {J : List (AtI zs) → World → Prop} {j k : Nat} {pre : List (AtI zs)} {x : AtI zs} {y : Int} (hj : j + k + 1 = zs.length) (hx : x.1.1 = j) (hp : pre.map Subtype.val = backs zs k) (hy : y = (j : Int) - 1) (hJ : J (pre ++ [x]) wr) (hb : Below w0.heap.size w0 wr) (hc : wr.cell? ⟨Bs, 0, none⟩ = some (.slice A N c)) : BackRel A N c Bs zs w0 J (.int .i64 y) wr := by
  subst hy
  have e : (pre ++ [x]).map Subtype.val = backs zs (k + 1) := by
    rw [backs_succ zs hj (x := x.1.2) (by rw [← hx]; exact x.2), List.map_append, hp, ← hx]
    rfl
  cases j with
  | zero => exact .inr ⟨by simp, _, by unfold BackS; rw [e]; congr 1; omega, hJ⟩
  | succ j => exact .inl ⟨j, k + 1, _, by omega, by congr 1; omega, e, hJ, hb, hc⟩

end Go.Proofs.Ytmhnciljbdflcaa

namespace Go.Proofs.Ytmhnciljbdflcaa
open Go.RowKit Go.Shelf
attribute [local go_sem] Oper.semAt_some

/-- A place of the row, and some pair. -/
abbrev AtP (N : Nat) := { x : Nat × Pr // x.1 < N }
def encP {N : Nat} (x : AtP N) : Array Value := #[.int .i64 (x.1.1 : Int), .agg #[.int .i64 x.1.2.1, .int .i64 x.1.2.2]]
def plP {N : Nat} (xs : List (AtP N)) : List Nat := xs.map fun x => x.1.1
/-- The row can be read. -/
def OkRow (g N : Nat) (W : World) : Prop := ∀ i, i < N → ∃ x y : Int, W.cell? ⟨g, i * 2, none⟩ = some (.int .i64 x) ∧ W.cell? ⟨g, i * 2 + 1, none⟩ = some (.int .i64 y)
theorem OkRow.block {g N : Nat} {W W' : World} (h : OkRow g N W) (hk : W'.heap[g]? = W.heap[g]?) : OkRow g N W' := fun i hi => by
  obtain ⟨x, y, h1, h2⟩ := h i hi
  exact ⟨x, y, (World.cell?_of_block (a := ⟨g, i * 2, none⟩) hk).trans h1, (World.cell?_of_block (a := ⟨g, i * 2 + 1, none⟩) hk).trans h2⟩
theorem OkRow.below {g N : Nat} {W W' : World} (h : OkRow g N W) (hb : Below W.heap.size W W') : OkRow g N W' := fun i hi => by
  obtain ⟨x, y, h1, h2⟩ := h i hi
  have := World.block_lt_of_cell? W _ h1
  exact ⟨x, y, (hb.cell (p := ⟨g, i * 2, none⟩) this).trans h1, (hb.cell (p := ⟨g, i * 2 + 1, none⟩) this).trans h2⟩
/-- The places from the end on, k of them. -/
def downs (N k : Nat) : List Nat := (List.range k).map fun i => N - 1 - i
theorem downs_succ {N j k : Nat} (h : j + k + 1 = N) : downs N (k + 1) = downs N k ++ [j] := by
  unfold downs
  rw [List.range_succ, List.map_append, List.map_singleton, show N - 1 - k = j by omega]
def DownS (N : Nat) (xs : List (AtP N)) : Prop := plP xs = downs N N
/-- What a round keeps. -/
def KpP (n₀ Bs g N : Nat) (W W' : World) : Prop := Below n₀ W W' ∧ W'.heap[Bs]? = W.heap[Bs]? ∧ (OkRow g N W → OkRow g N W')
theorem kpP_t {n₀ Bs g N : Nat} {A B C : World} (h : KpP n₀ Bs g N A B) (k : KpP n₀ Bs g N B C) : KpP n₀ Bs g N A C := ⟨h.1.trans k.1, k.2.1.trans h.2.1, fun x => k.2.2 (h.2.2 x)⟩
theorem kpP_b {n₀ Bs g N : Nat} {w : World} (hn : n₀ ≤ w.heap.size) (hB : Bs < w.heap.size) (hg : g < w.heap.size) (W : World) (l : Nat) (o o' : Obj) (hl : w.heap.size ≤ l) (h : W.heap[l]? = some o) (h1 : o.isCells = false) (h2 : o.isWalk = false) : KpP n₀ Bs g N W (W.putObj l o') :=
  ⟨belowK_b hn W l o o' hl h h1 h2, World.putObj_heap_other (by omega), fun x => x.block (World.putObj_heap_other (by omega))⟩

/-- The head of a round. -/
def DownRel (g N c Bs : Nat) (n₀ : Nat) (w0 : World) (J : List (AtP N) → World → Prop) (i : Value) (wr : World) : Prop :=
  (∃ (j k : Nat) (pre : List (AtP N)), j + k + 1 = N ∧ i = .int .i64 (j : Int) ∧ plP pre = downs N k ∧ J pre wr ∧ Below n₀ w0 wr ∧ OkRow g N wr ∧ wr.cell? ⟨Bs, 0, none⟩ = some (.slice (some ⟨g, 0, none⟩) N c)) ∨
  (i = .int .i64 (-1) ∧ ∃ pre, DownS N pre ∧ J pre wr)
theorem down_start {g N c Bs n₀ : Nat} {w0 wr : World} {J : List (AtP N) → World → Prop} {x : Int} (hx : x = (N : Int) - 1) (h0 : J [] wr) (hb : Below n₀ w0 wr) (hr : OkRow g N wr) (hc : wr.cell? ⟨Bs, 0, none⟩ = some (.slice (some ⟨g, 0, none⟩) N c)) : DownRel g N c Bs n₀ w0 J (.int .i64 x) wr := by
  subst hx
  cases N with
  | zero => exact .inr ⟨by simp, [], rfl, h0⟩
  | succ m => exact .inl ⟨m, 0, [], by omega, by congr 1; omega, rfl, h0, hb, hr, hc⟩
theorem down_next {g N c Bs n₀ : Nat} {w0 wr : World} {J : List (AtP N) → World → Prop} {j k : Nat} {pre : List (AtP N)} {x : AtP N} {y : Int} (hj : j + k + 1 = N) (hx : x.1.1 = j) (hp : plP pre = downs N k) (hy : y = (j : Int) - 1) (hJ : J (pre ++ [x]) wr) (hb : Below n₀ w0 wr) (hr : OkRow g N wr) (hc : wr.cell? ⟨Bs, 0, none⟩ = some (.slice (some ⟨g, 0, none⟩) N c)) : DownRel g N c Bs n₀ w0 J (.int .i64 y) wr := by
  subst hy
  have e : plP (pre ++ [x]) = downs N (k + 1) := by
    rw [downs_succ hj, ← hp, ← hx]
    unfold plP
    rw [List.map_append]
    rfl
  cases j with
  | zero => exact .inr ⟨by simp, _, by unfold DownS; rw [e]; congr 1; omega, hJ⟩
  | succ j => exact .inl ⟨j, k + 1, _, by omega, by congr 1; omega, e, hJ, hb, hr, hc⟩

set_option maxRecDepth 100000 in
set_option maxHeartbeats 2000000 in
theorem down1_in (n : Nat) (hn : 1 ≤ n) (l Bs g N c n₀ : Nat) (w0 : World) (hm : N ≤ 1048576) (J Jx : List (AtP N) → World → Prop)
    (hY : ∀ pre x W, J pre W → pre.length < N → YieldAt Fence.wide (n - 1) Try.prog l (encP x) W fun e W' =>
      (e = .returned (.bool true) ∧ J (pre ++ [x]) W' ∧ KpP n₀ Bs g N W W') ∨ (e = .returned (.bool false) ∧ Jx (pre ++ [x]) W'))
    (W : World) (hW : Below n₀ w0 W) (hr : OkRow g N W) (hBs : W.cell? ⟨Bs, 0, none⟩ = some (.slice (some ⟨g, 0, none⟩) N c)) (h0 : J [] W) :
    CallsIn Fence.wide n Try.prog 29 #[.func (.yield l) #[] #[], .pointer (some ⟨Bs, 0, none⟩)] W fun e W' => (∃ v, e = .returned v) ∧
      ((∃ ys, DownS N ys ∧ J ys W') ∨ (∃ pre, True ∧ Jx pre W')) := by
  refine callsIn_of_wp Try.func29 rfl trivial ?_ rfl
  simp only [Try.ntmps29, List.size_toArray, List.length_cons, List.length_nil, Nat.reduceAdd, Nat.reduceSub, Array.replicate_succ, Array.replicate_zero, List.push_toArray, List.append_toArray, List.nil_append, List.cons_append]
  gi_wp2
  gi_loopw [3] (fun i wr => DownRel g N c Bs n₀ w0 J i wr) (fun i _ => (intOf i + 1).toNat)
  case atStart => exact down_start (by omega) h0 hW hr hBs
  case round =>
    clear h0 hW hBs hr
    rcases hrel with ⟨j, k, pre, hj, rfl, hp, hJ, hB, hr, hc⟩ | ⟨rfl, pre, hS, hJ⟩
    · have hjN : j < N := by omega
      have hlen : pre.length < N := by
        have := congrArg List.length hp
        simp [downs, plP] at this
        omega
      obtain ⟨x, y, hd1, hd2⟩ := hr j hjN
      obtain ⟨fn, tmps, assign, body, hy, hR⟩ := hY pre ⟨(j, x, y), hjN⟩ wr hJ hlen
      dsimp only [encP] at hy
      have HJ := Lib.hid hj
      have HRr := Lib.hid hr
      clear hj hJ hr
      gi_wp2
      refine hR.mono ?_
      rintro e W3 (⟨rfl, hJ3, hk3⟩ | ⟨rfl, hJx3⟩)
      · have hc3 : W3.cell? ⟨Bs, 0, none⟩ = some (.slice (some ⟨g, 0, none⟩) N c) := (World.cell?_of_block (a := ⟨Bs, 0, none⟩) hk3.2.1).trans hc
        clear hc hd1 hd2 hy hR
        gi_wp2
        go_roundw
        case rel => exact down_next HJ.out rfl hp (by omega) hJ3 (hB.trans hk3.1) (hk3.2.2 HRr.out) hc3
        case measure => simp [intOf]
      · gi_wp2
        refine bodyPost_ret (results_none rfl _ _ _) rfl ?_
        exact ⟨⟨_, rfl⟩, .inr ⟨_, trivial, hJx3⟩⟩
    · gi_wp2
      go_end0
      exact ⟨⟨_, rfl⟩, .inl ⟨_, hS, hJ⟩⟩

theorem down_in (n : Nat) (A : Option Addr) (N c : Nat) (w : World) :
    CallsIn Fence.wide n Try.prog 26 #[.slice A N c] w fun e w' => e = .returned (.func (.func 29) #[] #[.pointer (some ⟨w.heap.size, 0, none⟩)]) ∧ w' = w.alloc (.cells #[.slice A N c] 22) := by
  refine callsIn_of_wp Try.func26 rfl trivial ?_ rfl
  simp only [Try.ntmps26, List.size_toArray, List.length_cons, List.length_nil, Nat.reduceAdd, Nat.reduceSub, Array.replicate_succ, Array.replicate_zero, List.push_toArray, List.append_toArray, List.nil_append, List.cons_append]
  gi_wp2
  go_ret
  exact ⟨rfl, rfl⟩

theorem down_stops (n : Nat) (hn : 1 ≤ n) (Bs g N c n₀ : Nat) (w0 w : World) (hm : N ≤ 1048576) (hn0 : n₀ ≤ w.heap.size) (h0 : Below n₀ w0 w) (hr : OkRow g N w) (hb : Boxed w Bs 22 (.slice (some ⟨g, 0, none⟩) N c)) :
    SeqStopsK Fence.wide n Try.prog 29 #[.pointer (some ⟨Bs, 0, none⟩)] encP (KpP n₀ Bs g N) (DownS N) (fun _ => True) N w := fun l J Jx W hW _ _ hY h =>
  down1_in n hn l Bs g N c n₀ w0 hm J Jx hY W (h0.trans (hW.mono hn0)) (hr.below hW) ((hW.cell (p := ⟨Bs, 0, none⟩) hb.lt).trans hb.cell) h

end Go.Proofs.Ytmhnciljbdflcaa
