/-
  Words and contracts that the proof leans on.
-/
import Derived.Test.YtokgabijjgndgaaM3
import Derived.Test.YtokgabijjgndgaaM8
namespace Go.Proofs.Ytokgabijjgndgaa
open Go.RowKit

end Go.Proofs.Ytokgabijjgndgaa

namespace Go.Proofs.Ytokgabijjgndgaa

end Go.Proofs.Ytokgabijjgndgaa

namespace Go.Proofs.Ytokgabijjgndgaa
open Go.RowKit

theorem iv_takeX (l : List Int) (k : Nat) : (iv l).take k = iv (l.take k) := by simp [iv, List.map_take]

set_option maxRecDepth 100000 in
theorem size_int (w : World) : (sizeOf (Try.prog.elem 27)).run Try.prog w = .ok 1 w := by
  rfl

set_option maxRecDepth 100000 in
/-- l[:hi]. -/
theorem slice_to (A : Option Addr) (n c hi : Nat) (l : List Int) (w0 : World) (h : Row w0 A (iv l)) (hhi : hi ≤ c) :
    (∀ w, (Instr.sliceAt 27 (.slice A n c) none (some (.int .i64 (hi : Int))) none).run Try.prog w = .ok (.slice A hi c) w) ∧ Row w0 A (iv (l.take hi)) := by
  refine ⟨fun w => ?_, ?_⟩
  · rw [run_sliceAt_slice w 27 _ _ _ _ Try.underlying27, run_slice_h w 27 A n c Try.underlying27 .i64 (hi : Int) (by omega) (by omega), size_int]
    cases A <;> simp [Result.andThen, sliced, Addr.add]
  · rw [← iv_takeX]
    exact h.take hi
end Go.Proofs.Ytokgabijjgndgaa
