/-
  Words and contracts that the proof leans on.
-/
import Derived.Test.YthpinbmimgojnaaM21
import Derived.Test.YthpinbmimgojnaaM8
import Derived.Deep.DeepCutAuto
import Derived.Deep.QuietTactic
namespace Go.Proofs.Ythpinbmimgojnaa
open Go.RowKit

theorem most_in {N M W q : Nat} {d : Int} (hN : N ≤ 1048576) (hM : M ≤ 1048576) (hW : max N M - min N M = W) (hd : d = (W : Int) + 2 * q) (hd2 : d ≤ (N : Int) + M) : mostQ N M d = ((q : Int) + 1) * ((W : Int) + q + 1) := by
  have e : max (N : Int) M - min (N : Int) M = (W : Int) := by omega
  unfold mostQ
  rw [if_pos ⟨⟨by omega, by omega⟩, ⟨by omega, by omega⟩, ⟨by omega, hd2⟩, by omega⟩, e, show (d - (W : Int)) / 2 = (q : Int) by omega]
theorem most_fits {W q : Nat} (hW : W ≤ 1048576) (hq : q ≤ 1048576) : IntKind.i64.wrap (((q : Int) + 1) * ((W : Int) + q + 1)) = ((q : Int) + 1) * ((W : Int) + q + 1) := by
  have h1 : (q + 1) * (W + q + 1) ≤ 1048577 * 2097153 := Nat.mul_le_mul (by omega) (by omega)
  have h2 : (((q + 1) * (W + q + 1) : Nat) : Int) = ((q : Int) + 1) * ((W : Int) + q + 1) := by simp
  exact IntWalk.i64_in _ (by omega)
theorem tmod_two {z : Int} (h : 0 ≤ z) : z.tmod 2 = z % 2 := Int.tmod_eq_emod_of_nonneg h
theorem tdiv_two {z : Int} (h : 0 ≤ z) : z.tdiv 2 = z / 2 := Int.tdiv_eq_ediv_of_nonneg h

theorem apart_any (N M W : Nat) (w : World) (hN : N ≤ 1048576) (hM : M ≤ 1048576) (hW : max N M - min N M = W) :
    Calls Try.prog 26 #[.int .i64 (N : Int), .int .i64 (M : Int)] w fun e w' => e = .returned (.int .i64 (W : Int)) ∧ w' = w := by
  by_cases h : M < N
  · obtain rfl : N = M + W := by omega
    clear hW
    have e1 : ((M + W : Nat) : Int) - (M : Int) = (W : Int) := by omega
    go_enter Try.func26, Try.ntmps26
    go_wp2_with fail
    go_ret
    exact ⟨by go_num, rfl⟩
  · obtain rfl : M = N + W := by omega
    clear hW
    go_enter Try.func26, Try.ntmps26
    go_wp2_with fail
    go_ret
    exact ⟨by go_num, rfl⟩

end Go.Proofs.Ythpinbmimgojnaa
