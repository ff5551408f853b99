/-
  Words and contracts that the proof leans on.
-/
import Derived.Shelf.Bits.Mul64
import Derived.Ground.NamesProg
import Derived.Test.YthpinbmimgojnaaProg
namespace Go.Proofs
open Go.Shelf
def Try.mulL_ren : Go.Shelf.Ren := ⟨fun | 212 => 32 | 263 => 33 | 264 => 34 | n => n, fun | 46 => 57 | 51 => 60 | 146 => 61 | 53 => 55 | 148 => 63 | n => n, fun | n => n⟩
theorem Try.mulL : Go.Proofs.Lays.n212 Try.prog Try.mulL_ren := {
  mixed := by kernel_rfl
  f212 := Try.func32.trans (congrArg some (by kernel_rfl))
  f263 := Try.func33.trans (congrArg some (by kernel_rfl))
  f264 := Try.func34.trans (congrArg some (by kernel_rfl))
  t46 := Try.underlying57
  a46 := Try.isAgg57
  z46 := Try.sizeOf57
  v46 := Try.zeroValue57
  t51 := Try.underlying60
  a51 := Try.isAgg60
  z51 := Try.sizeOf60
  v51 := Try.zeroValue60
  t53 := Try.underlying55
  a53 := Try.isAgg55
  z53 := Try.sizeOf55
  v53 := Try.zeroValue55
  t146 := Try.underlying61
  a146 := Try.isAgg61
  z146 := Try.sizeOf61
  v146 := Try.zeroValue61
  t148 := Try.underlying63
  a148 := Try.isAgg63
  z148 := Try.sizeOf63
  v148 := Try.zeroValue63 }
end Go.Proofs
