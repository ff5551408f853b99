/-
  Words and contracts that the proof leans on.
-/
import Derived.Test.YtejpbjglfjhjkaaM10
import Derived.Test.YtejpbjglfjhjkaaM17
import Derived.Test.YtejpbjglfjhjkaaM4
import Derived.Laws.Rows
namespace Go.Proofs.Ytejpbjglfjhjkaa
open Go.RowKit

theorem Try.sizePair : (Try.prog.info? 28).map (·.size) = some 2 := by kernel_rfl

set_option maxRecDepth 100000 in
set_option maxHeartbeats 800000 in
theorem moved_any (x y i j : Int) (w : World) (hx : I64 (x + i)) (hy : I64 (y + j)) : Calls Try.prog 34 #[.agg #[.int .i64 x, .int .i64 y], .int .i64 i, .int .i64 j] w fun e w' => e = .returned (.agg #[.int .i64 (x + i), .int .i64 (y + j)]) ∧ Below w.heap.size w w' := by
  have e1 := Lib.hid (IntWalk.wrap64_in (x + i) (by unfold I64 at hx; omega))
  have e2 := Lib.hid (IntWalk.wrap64_in (y + j) (by unfold I64 at hy; omega))
  go_enter Try.func34, Try.ntmps34
  go_wp2_with fail
  rw [e1.out, e2.out]
  exact bodyPost_ret (results_cell_row rfl _ _ (w.heap.size + 1) _ _ _ _ rfl (heap_alloc2_new w _ _) Try.underlying28 rfl Try.sizePair) rfl ⟨rfl, ((Below.refl _ _).alloc (Nat.le_refl _) _).alloc (by simp) _⟩

end Go.Proofs.Ytejpbjglfjhjkaa
