/-
  Package vec over the landed code: clearFrom, Fit, Not, Ones.
-/
import Derived.Test.YthmfolekohomiaaVp2
namespace Go.Proofs.Ythmfolekohomiaa
open Go.RowKit

/-- What clearFrom makes of words: the bits from N on go. -/
def keepW (N : Nat) (F : Nat → Nat) (k : Nat) : Nat := if k = N / 64 ∧ N % 64 ≠ 0 then F k &&& (2 ^ (N % 64) - 1) else F k
theorem keepW_lt {N W : Nat} {F : Nat → Nat} (h : ∀ k, k < W → F k < 18446744073709551616) (k : Nat) (hk : k < W) : keepW N F k < 18446744073709551616 := by
  unfold keepW
  split
  · exact Nat.lt_of_le_of_lt Nat.and_le_left (h k hk)
  · exact h k hk
theorem keepW_bit {N : Nat} {F : Nat → Nat} {g : Nat → Bool} (h : ∀ j, j < 64 * ((N + 63) / 64) → (F (j / 64)).testBit (j % 64) = g j) (j : Nat) (hj : j < 64 * ((N + 63) / 64)) : (keepW N F (j / 64)).testBit (j % 64) = (decide (j < N) && g j) := by
  unfold keepW
  split
  · rename_i e
    rw [Nat.testBit_and, h j hj, Nat.testBit_two_pow_sub_one, Bool.and_comm]
    congr 1
    simp only [decide_eq_decide]
    omega
  · rename_i e
    rw [h j hj]
    by_cases hN : j < N
    · rw [decide_eq_true hN, Bool.true_and]
    · exfalso
      omega

theorem mask_wrap (s : Nat) (hs : s < 64) : IntKind.u64.wrap (IntKind.u64.wrap ((2 : Int) ^ s) - 1) = ((2 ^ s - 1 : Nat) : Int) := by
  have h2 : 2 ^ s < 18446744073709551616 := Nat.lt_of_lt_of_le (Nat.pow_lt_pow_right (by decide) hs) (by decide)
  have h0 := Nat.two_pow_pos s
  rw [pow_wrap s hs, IntKind.wrap_u64]
  generalize 2 ^ s = P at *
  omega

theorem clear_set {T N q s : Nat} {F : Nat → Nat} {w : World} (hr : w.rowIs T 28 (q + 1) (fun k => .int .u64 (F k : Nat))) {z : Int} (hz : z = ((F q &&& (2 ^ s - 1) : Nat) : Int)) (hq : q = N / 64) (hs : N % 64 = s) (h0 : s ≠ 0) :
    (w.setCell ⟨T, q, none⟩ (.int .u64 z)).rowIs T 28 (q + 1) (fun k => .int .u64 (keepW N F k : Nat)) := (hr.set q _).congr fun k _ => by
  unfold keepW
  by_cases e : k = q
  · rw [if_pos e, if_pos (by omega), e, hs, hz]
  · rw [if_neg e, if_neg (by omega)]

set_option maxRecDepth 100000 in
set_option maxHeartbeats 1600000 in
theorem pclear (n : Int) (T W B : Nat) (F : Nat → Nat) (w0 w : World) (hW : wds n = W) (hr : w.rowIs T 28 W (fun k => .int .u64 (F k : Nat))) (hF : ∀ k, k < W → F k < 18446744073709551616) (hT : B ≤ T) (hb : Below B w0 w) :
    Calls Try.prog 34 #[.slice (some ⟨T, 0, none⟩) W W, .int .i64 n] w fun e w' => e = .returned (.tuple #[]) ∧ w'.rowIs T 28 W (fun k => .int .u64 (keepW (wid n) F k : Nat)) ∧ Below B w0 w' := by
  have HWD := Lib.hid (pwidth n w)
  have hN := wid_le n
  have hWN : W = (wid n + 63) / 64 := hW.symm
  clear hW
  generalize wid n = N at *
  go_enter Try.func34, Try.ntmps34
  go_wp2_with fail
  refine HWD.out.mono ?_
  rintro e w' ⟨rfl, rfl⟩
  clear HWD
  by_cases h0 : N % 64 = 0
  · have HR : Hid (w.rowIs T 28 W (fun k => .int .u64 (keepW N F k : Nat))) := hr.congr fun k _ => by unfold keepW; rw [if_neg (by omega)]
    have z0 : (N : Int) % 64 = 0 := by omega
    clear hWN hr
    go_wp2_with fail
    go_end0
    exact ⟨rfl, HR.out, hb⟩
  · obtain ⟨q, rfl⟩ : ∃ q, W = q + 1 := ⟨N / 64, by omega⟩
    obtain ⟨s, hs⟩ : ∃ s, N % 64 = s := ⟨_, rfl⟩
    have z0 : (N : Int) % 64 = (s : Int) := by omega
    have z1 : s ≠ 0 := by omega
    have z2 : s < 64 := by omega
    have t1 := hr.cell (i := q) (by omega)
    have t2 := hr.frozen q
    have hq := hF q (by omega)
    have hm2 : 2 ^ s - 1 < 18446744073709551616 := by
      have h2 : 2 ^ s < 18446744073709551616 := Nat.lt_of_lt_of_le (Nat.pow_lt_pow_right (by decide) z2) (by decide)
      omega
    have HS := Lib.hid (fun (w1 : World) (h1 : w1.rowIs T 28 (q + 1) (fun k => .int .u64 (F k : Nat))) (z : Int) (hz : z = ((F q &&& (2 ^ s - 1) : Nat) : Int)) => clear_set (N := N) h1 hz (by omega) hs (by omega))
    have HRR := Lib.hid hr
    have HBB := Lib.hid hb
    have HE := Lib.hid (u64_and_nat (F q) (2 ^ s - 1) hq hm2)
    have HM := Lib.hid (mask_wrap s z2)
    have hql : q ≤ 16384 := by omega
    have zq := IntWalk.i64_in (q : Int) (by omega)
    clear hWN hr h0 hs hm2 hb
    go_wp2_with fail
    go_region
    go_wp2_with fail
    go_end0
    exact ⟨rfl, HS.out _ HRR.out.drew _ (by rw [HM.out, HE.out]), (below_drew HBB.out).setCell hT _⟩

end Go.Proofs.Ythmfolekohomiaa
