/-
  Pieces of lists of bytes.
-/
import Derived.Test.YtakefhmahngdeaaLow
import Derived.Test.YtakefhmahngdeaaMemB
namespace Go.Proofs.Ytakefhmahngdeaa
open Go.RowKit

theorem sizeB (w : World) : (sizeOf (Try.prog.elem 23)).run Try.prog w = .ok 1 w := by
  rfl
/-- l[lo:]. -/
theorem slice_fromB (A : Option Addr) (n c lo : Nat) (l : List UInt8) (w0 : World) (h : Row w0 A (bv l)) (hn : l.length = n) (hc : n ≤ c) (hlo : lo ≤ n) :
    ∃ A' c', (∀ w, (Instr.sliceAt 23 (.slice A n c) (some (.int .i64 (lo : Int))) none none).run Try.prog w = .ok (.slice A' (n - lo) c') w) ∧ n - lo ≤ c' ∧ Row w0 A' (bv (l.drop lo)) := by
  refine ⟨if c = lo then A else A.map (·.add (lo * 1)), c - lo, fun w => ?_, by omega, ?_⟩
  · rw [run_sliceAt_slice w 23 _ _ _ _ Try.underlying23, run_slice_l w 23 A n c Try.underlying23 .i64 (lo : Int) (by omega) (by omega), sizeB]
    simp [Result.andThen, sliced]
  · have := h.cut lo n c hlo (by rw [bv_length]; omega) (by rw [bv_length]; omega)
    rw [bv_cut, List.take_of_length_le (by rw [List.length_drop]; omega)] at this
    rw [Nat.mul_one]
    exact this
/-- l[:hi]. -/
theorem slice_toB (A : Option Addr) (n c hi : Nat) (l : List UInt8) (w0 : World) (h : Row w0 A (bv l)) (hhi : hi ≤ c) :
    (∀ w, (Instr.sliceAt 23 (.slice A n c) none (some (.int .i64 (hi : Int))) none).run Try.prog w = .ok (.slice A hi c) w) ∧ Row w0 A (bv (l.take hi)) := by
  refine ⟨fun w => ?_, ?_⟩
  · rw [run_sliceAt_slice w 23 _ _ _ _ Try.underlying23, run_slice_h w 23 A n c Try.underlying23 .i64 (hi : Int) (by omega) (by omega), sizeB]
    cases A <;> simp [Result.andThen, sliced, Addr.add]
  · have e : bv (l.take hi) = (bv l).take hi := by simp [bv, List.map_take]
    rw [e]
    exact h.take hi

end Go.Proofs.Ytakefhmahngdeaa
