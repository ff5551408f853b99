/-
  Words and contracts that the proof leans on.
-/
import Derived.Shelf.Bits.Mul64
import Derived.Ground.NamesProg
import Derived.Test.YtgbcdeahiemhoaaProg
namespace Go.Proofs
open Go.Shelf
def Try.mulL_ren : Go.Shelf.Ren := ⟨fun | 212 => 41 | 263 => 44 | 264 => 45 | n => n, fun | 46 => 35 | 51 => 66 | 146 => 67 | 53 => 53 | 148 => 69 | n => n, fun | n => n⟩
theorem Try.mulL : Go.Proofs.Lays.n212 Try.prog Try.mulL_ren := {
  mixed := by kernel_rfl
  f212 := Try.func41.trans (congrArg some (by kernel_rfl))
  f263 := Try.func44.trans (congrArg some (by kernel_rfl))
  f264 := Try.func45.trans (congrArg some (by kernel_rfl))
  t46 := Try.underlying35
  a46 := Try.isAgg35
  z46 := Try.sizeOf35
  v46 := Try.zeroValue35
  t51 := Try.underlying66
  a51 := Try.isAgg66
  z51 := Try.sizeOf66
  v51 := Try.zeroValue66
  t53 := Try.underlying53
  a53 := Try.isAgg53
  z53 := Try.sizeOf53
  v53 := Try.zeroValue53
  t146 := Try.underlying67
  a146 := Try.isAgg67
  z146 := Try.sizeOf67
  v146 := Try.zeroValue67
  t148 := Try.underlying69
  a148 := Try.isAgg69
  z148 := Try.sizeOf69
  v148 := Try.zeroValue69 }
end Go.Proofs
