/-
  Words and contracts that the proof leans on.
-/
import Derived.Test.YtncbhnmhaoblaaaM11
import Derived.Laws.Externs
import Derived.Shelf.Spec.BitsCarry
namespace Go.Proofs.Ytncbhnmhaoblaaa
open Go.RowKit

/-- The carry into word k. -/
def cw (x y : List Nat) : Nat → Nat
  | 0 => 0
  | k + 1 => (wd x k + wd y k + cw x y k) / 18446744073709551616
def addW (x y : List Nat) (k : Nat) : Nat := (wd x k + wd y k + cw x y k) % 18446744073709551616
theorem cw_le {x y : List Nat} (hx : Wd x) (hy : Wd y) : ∀ k, cw x y k ≤ 1
  | 0 => Nat.zero_le _
  | k + 1 => by
    have h1 := wd_lt hx k
    have h2 := wd_lt hy k
    have h3 := cw_le hx hy k
    rw [cw]
    omega
theorem val_drop (x : List Nat) (k : Nat) : val (x.drop k) = wd x k + 18446744073709551616 * val (x.drop (k + 1)) := by
  by_cases hk : k < x.length
  · rw [List.drop_eq_getElem_cons hk, val, wd_in hk]
  · rw [List.drop_eq_nil_of_le (by omega), List.drop_eq_nil_of_le (by omega), ← wd_out (by omega)]
    rfl
/-- What is left of the sum behind k words. -/
theorem sum_rest (x y : List Nat) : ∀ k, (val x + val y) / 2 ^ (64 * k) = val (x.drop k) + val (y.drop k) + cw x y k
  | 0 => by simp [cw]
  | k + 1 => by
    rw [Nat.mul_succ, Nat.pow_add, ← Nat.div_div_eq_div_mul, sum_rest x y k, val_drop x k, val_drop y k, cw]
    omega
theorem addW_bit (x y : List Nat) (hx : Wd x) (hy : Wd y) (j : Nat) : (addW x y (j / 64)).testBit (j % 64) = sumB x y j := by
  have h : (val x + val y).testBit j = sumB x y j := by
    rw [add_bits]
    unfold sumB
    rw [val_bit x hx, val_bit y hy, funext (val_bit x hx), funext (val_bit y hy)]
  rw [← h]
  have e : addW x y (j / 64) = (val x + val y) / 2 ^ (64 * (j / 64)) % 2 ^ 64 := by
    rw [sum_rest, val_drop x, val_drop y]
    unfold addW
    omega
  rw [e, Nat.testBit_mod_two_pow, Nat.testBit_div_two_pow, decide_eq_true (Nat.mod_lt _ (by decide)), Bool.true_and]
  congr 1
  omega

theorem wd_map (F : Nat → Nat) (W k : Nat) (h : k < W) : wd ((List.range W).map F) k = F k := by
  unfold wd
  rw [List.getElem?_map, List.getElem?_range h]
  rfl
theorem add64 (x y c : Nat) (hx : x < 18446744073709551616) (hy : y < 18446744073709551616) (hc : c ≤ 1) (w : World) :
    (callFunc 53 #[.int .u64 x, .int .u64 y, .int .u64 c]).run Try.prog w =
      .ok (.value (.tuple #[.int .u64 (((x + y + c) % 18446744073709551616 : Nat) : Int), .int .u64 (((x + y + c) / 18446744073709551616 : Nat) : Int)])) w := by
  rw [run_callFunc_extern Try.func53 (by kernel_rfl) (by kernel_rfl) (by kernel_rfl) (e := add64Entry) (by kernel_rfl), run_add64 x y c (by omega) (by omega) (by omega) (by omega)]
  simp only [Result.andThen]
  congr 5 <;> omega
end Go.Proofs.Ytncbhnmhaoblaaa
