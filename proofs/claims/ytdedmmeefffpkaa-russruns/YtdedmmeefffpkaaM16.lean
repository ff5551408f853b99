/-
  Words and contracts that the proof leans on.
-/
import Derived.Test.YtdedmmeefffpkaaM1
import Derived.Laws.BitsAllLaws
namespace Go.Proofs.Ytdedmmeefffpkaa
open Go.RowKit

theorem and_one_i64 (n : Int) : bits .and .i64 n 1 = n % 2 := by
  have h1 : (BitVec.ofInt 64 1).toNat = 2 ^ 1 - 1 := by decide
  have key : (BitVec.ofInt 64 n &&& BitVec.ofInt 64 1).toNat = (n % ((2 ^ 64 : Nat) : Int)).toNat % 2 ^ 1 := by
    rw [BitVec.toNat_and, BitVec.toNat_ofInt, h1, Nat.and_two_pow_sub_one_eq_mod]
  show IntKind.i64.wrap ((BitVec.ofInt 64 n &&& BitVec.ofInt 64 1).toNat : Nat) = n % 2
  rw [key, IntKind.wrap_i64]
  omega
theorem or_i64 {a b : Nat} (ha : a < 2 ^ 62) (hb : b < 2 ^ 62) : bits .or .i64 (a : Int) (b : Int) = ((a ||| b : Nat) : Int) := by
  show IntKind.i64.wrap ((BitVec.ofInt 64 a ||| BitVec.ofInt 64 b).toNat : Nat) = _
  rw [BitVec.toNat_or, ofInt_u64 a (by omega), ofInt_u64 b (by omega), IntKind.wrap_i64]
  have := Nat.or_lt_two_pow ha hb
  omega
theorem and_i64 {a b : Nat} (ha : a < 2 ^ 62) (hb : b < 2 ^ 62) : bits .and .i64 (a : Int) (b : Int) = ((a &&& b : Nat) : Int) := by
  show IntKind.i64.wrap ((BitVec.ofInt 64 a &&& BitVec.ofInt 64 b).toNat : Nat) = _
  rw [BitVec.toNat_and, ofInt_u64 a (by omega), ofInt_u64 b (by omega), IntKind.wrap_i64]
  have := Nat.and_lt_two_pow a hb
  omega
theorem and_mask {a t : Nat} (ha : a < 2 ^ 62) (ht : t < 62) : bits .and .i64 (a : Int) ((2 ^ t - 1 : Nat) : Int) = ((a % 2 ^ t : Nat) : Int) := by
  have h : 2 ^ t ≤ 2 ^ 61 := Nat.pow_le_pow_right (by decide) (by omega)
  rw [and_i64 ha (by omega), Nat.and_two_pow_sub_one_eq_mod]
theorem or_join {a b t : Nat} (ha : a * 2 ^ t < 2 ^ 62) (hb : b < 2 ^ t) (ht : t < 62) : bits .or .i64 ((a * 2 ^ t : Nat) : Int) (b : Int) = ((a * 2 ^ t + b : Nat) : Int) := by
  have h : 2 ^ t ≤ 2 ^ 61 := Nat.pow_le_pow_right (by decide) (by omega)
  rw [or_i64 ha (by omega), nat_join t _ _ (by simp) hb]

end Go.Proofs.Ytdedmmeefffpkaa
