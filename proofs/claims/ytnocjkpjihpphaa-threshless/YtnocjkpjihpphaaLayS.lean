/-
  Contracts of the library, laid at this program by the command of the shelf, in plain words.
-/
import Derived.Shelf.Slices.SearchI
import Derived.Shelf.Slices.Empties
import Derived.Ground.Names2Prog
import Derived.Test.YtnocjkpjihpphaaProg
namespace Go.Proofs
open Go.Shelf
def Try.searchI_ren : Go.Shelf.Ren := ⟨fun | 25 => 24 | 31 => 28 | 32 => 29 | 37 => 32 | n => n, fun | 22 => 22 | 3 => 3 | 4 => 4 | 40 => 44 | 0 => 0 | n => n, fun | n => n⟩
theorem Try.searchI : Go.Proofs.Lays2.n25 Try.prog Try.searchI_ren := {
  mixed := by kernel_rfl
  f25 := Try.func24.trans (congrArg some (by kernel_rfl))
  f31 := Try.func28.trans (congrArg some (by kernel_rfl))
  f32 := Try.func29.trans (congrArg some (by kernel_rfl))
  f37 := Try.func32.trans (congrArg some (by kernel_rfl))
  t0 := Try.underlying0
  a0 := Try.isAgg0
  z0 := Try.sizeOf0
  v0 := Try.zeroValue0
  t3 := Try.underlying3
  a3 := Try.isAgg3
  z3 := Try.sizeOf3
  v3 := Try.zeroValue3
  t4 := Try.underlying4
  a4 := Try.isAgg4
  z4 := Try.sizeOf4
  v4 := Try.zeroValue4
  t22 := Try.underlying22
  a22 := Try.isAgg22
  z22 := Try.sizeOf22
  v22 := Try.zeroValue22
  t40 := Try.underlying44
  a40 := Try.isAgg44
  z40 := Try.sizeOf44
  v40 := Try.zeroValue44 }
end Go.Proofs
