/-
  Pieces of lists of numbers.
-/
import Derived.Test.YtdkcgehjokdnoaaLow
import Derived.Test.YtdkcgehjokdnoaaRefI
namespace Go.Proofs.Ytdkcgehjokdnoaa
open Go.RowKit

theorem iv_dropX (l : List Int) (k : Nat) : (iv l).drop k = iv (l.drop k) := by simp [iv, List.map_drop]
theorem iv_takeX (l : List Int) (k : Nat) : (iv l).take k = iv (l.take k) := by simp [iv, List.map_take]

set_option maxRecDepth 100000 in
theorem size_int (w : World) : (sizeOf (Try.prog.elem 22)).run Try.prog w = .ok 1 w := by
  rfl

set_option maxRecDepth 100000 in
/-- l[lo:]. -/
theorem slice_from (A : Option Addr) (n c lo : Nat) (l : List Int) (w0 : World) (h : Row w0 A (iv l)) (hn : l.length = n) (hc : n ≤ c) (hlo : lo ≤ n) :
    ∃ A' c', (∀ w, (Instr.sliceAt 22 (.slice A n c) (some (.int .i64 (lo : Int))) none none).run Try.prog w = .ok (.slice A' (n - lo) c') w) ∧ n - lo ≤ c' ∧ Row w0 A' (iv (l.drop lo)) := by
  refine ⟨if c = lo then A else A.map (·.add (lo * 1)), c - lo, fun w => ?_, by omega, ?_⟩
  · rw [run_sliceAt_slice w 22 _ _ _ _ Try.underlying22, run_slice_l w 22 A n c Try.underlying22 .i64 (lo : Int) (by omega) (by omega), size_int]
    simp [Result.andThen, sliced]
  · have := h.cut lo n c hlo (by rw [iv_length]; omega) (by rw [iv_length]; omega)
    rw [iv_dropX, List.take_of_length_le (by rw [iv_length, List.length_drop]; omega)] at this
    rw [Nat.mul_one]
    exact this
set_option maxRecDepth 100000 in
/-- l[lo:], and what it is where there is none. -/
theorem slice_fromN (A : Option Addr) (n c lo : Nat) (l : List Int) (w0 : World) (h : Row w0 A (iv l)) (hn : l.length = n) (hc : n ≤ c) (hlo : lo ≤ n) (hnil : A = none → c = 0) :
    ∃ A' c', (∀ w, (Instr.sliceAt 22 (.slice A n c) (some (.int .i64 (lo : Int))) none none).run Try.prog w = .ok (.slice A' (n - lo) c') w) ∧ n - lo ≤ c' ∧ Row w0 A' (iv (l.drop lo)) ∧ (A' = none → c' = 0) := by
  refine ⟨if c = lo then A else A.map (·.add (lo * 1)), c - lo, fun w => ?_, by omega, ?_, fun e => ?_⟩
  · rw [run_sliceAt_slice w 22 _ _ _ _ Try.underlying22, run_slice_l w 22 A n c Try.underlying22 .i64 (lo : Int) (by omega) (by omega), size_int]
    simp [Result.andThen, sliced]
  · have := h.cut lo n c hlo (by rw [iv_length]; omega) (by rw [iv_length]; omega)
    rw [iv_dropX, List.take_of_length_le (by rw [iv_length, List.length_drop]; omega)] at this
    rw [Nat.mul_one]
    exact this
  · by_cases g : c = lo
    · omega
    · rw [if_neg g] at e
      cases A with
      | none => have := hnil rfl; omega
      | some a => cases e
set_option maxRecDepth 100000 in
/-- l[:hi]. -/
theorem slice_to (A : Option Addr) (n c hi : Nat) (l : List Int) (w0 : World) (h : Row w0 A (iv l)) (hhi : hi ≤ c) :
    (∀ w, (Instr.sliceAt 22 (.slice A n c) none (some (.int .i64 (hi : Int))) none).run Try.prog w = .ok (.slice A hi c) w) ∧ Row w0 A (iv (l.take hi)) := by
  refine ⟨fun w => ?_, ?_⟩
  · rw [run_sliceAt_slice w 22 _ _ _ _ Try.underlying22, run_slice_h w 22 A n c Try.underlying22 .i64 (hi : Int) (by omega) (by omega), size_int]
    cases A <;> simp [Result.andThen, sliced, Addr.add]
  · rw [← iv_takeX]
    exact h.take hi

end Go.Proofs.Ytdkcgehjokdnoaa
