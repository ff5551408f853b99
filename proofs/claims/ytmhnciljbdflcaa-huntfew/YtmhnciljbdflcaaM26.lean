/-
  Words and contracts that the proof leans on.
-/
import Derived.Test.YtmhnciljbdflcaaM24
import Derived.Test.YtmhnciljbdflcaaM25
namespace Go.Proofs.Ytmhnciljbdflcaa
open Go.RowKit

/-- The head of a round of Next. -/
def RnRel (x : Int) (b row : List Int) (m : Nat) (w : World) (v i : Value) (wr : World) : Prop :=
  ∃ k : Nat, k ≤ m ∧ i = .int .i64 (k : Int) ∧ wr.ownsRow w.heap.size 3 1 v (k + 1) (iv (rowL k (nx x b (nth row)))) ∧ Below w.heap.size w wr
theorem rn_step {x : Int} {b row : List Int} {m k : Nat} {w wr : World} {v : Value} {z : Int} (hk : k < m) (hz : nx x b (nth row) (k + 1) = z) (h : wr.ownsRow w.heap.size 3 1 v (k + 1 + 1) (iv (rowL k (nx x b (nth row))) ++ [.int .i64 z])) (hb : Below w.heap.size w wr) : RnRel x b row m w v (.int .i64 ((k + 1 : Nat) : Int)) wr := by
  subst hz
  refine ⟨k + 1, hk, rfl, ?_, hb⟩
  rw [rowL_succ, iv_append]
  exact h

/-- What a call leaves that returns a row to read. -/
def RowOf (l : List Int) (w : World) (e : Ending) (w' : World) : Prop := ∃ A, e = .returned (.slice A l.length l.length) ∧ Row w' A (iv l) ∧ Below w.heap.size w w'

set_option maxHeartbeats 800000 in
theorem rfront_any (A B : Option Addr) (n m c d : Nat) (a b : List Int) (w : World) (hn : a.length = n) (hm : b.length = m) (hb : n ≤ 1048576) (hb' : m ≤ 1048576) (h1 : Row w A (iv a)) (h2 : Row w B (iv b)) :
    Calls Try.prog 23 #[.slice A n c, .slice B m d] w (RowOf (frontL a b) w) := by
  have C := Lib.hid (rahead_any A B n m c d a b w hn hm hb hb' h1 h2)
  have HL : Hid ((frontL a b).length = m + 1) := by show _ = _; rw [frontL_length, hm]
  have HE : Hid (frontL a b = rowL m fun c => ((px a b n c : Nat) : Int)) := by show _ = _; unfold frontL; rw [hm, hn]
  clear h1 h2 hn hm
  go_enter Try.func23, Try.ntmps23
  go_wp2_with fail
  refine C.out.mono ?_
  rintro e w1 ⟨T, blk, rfl, _, ⟨t1, t2⟩, hB⟩
  have c1 := t1.cell (i := n) (by omega)
  have HF : Hid (RowOf (frontL a b) w (.returned (.slice (some ⟨blk n, 0, none⟩) (m + 1) (m + 1))) w1) := by
    refine ⟨_, by rw [HL.out], ?_, hB⟩
    rw [HE.out]
    exact Row.of_own (own_isRow (B := 0) (t2 n (Nat.le_refl _)) (Nat.zero_le _) (by unfold maxLen; omega))
  clear t1 t2 hB C
  go_wp2_with fail
  go_ret
  exact HF.out

end Go.Proofs.Ytmhnciljbdflcaa
