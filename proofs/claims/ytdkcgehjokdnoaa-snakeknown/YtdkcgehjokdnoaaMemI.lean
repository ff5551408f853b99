/-
  Numbers that a call makes.
-/
import Derived.Test.YtdkcgehjokdnoaaMem
namespace Go.Proofs.Ytdkcgehjokdnoaa
open Go.RowKit

theorem Try.infoInt : (Try.prog.info? 3).map (fun i => (i.zero, i.size, i.bytes)) = some (some (.int .i64 0), 1, 8) := by kernel_rfl

/-- What a call leaves that returns new numbers. -/
def MadeI (l : List Int) (w : World) (e : Ending) (w' : World) : Prop := ∃ v, e = .returned v ∧ w'.ownsRow w.heap.size 3 1 v l.length (l.map (Value.int .i64)) ∧ Below w.heap.size w w'

end Go.Proofs.Ytdkcgehjokdnoaa
