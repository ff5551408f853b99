/-
  Words and contracts that the proof leans on.
-/
import Derived.Test.YtncbhnmhaoblaaaM1
import Derived.Test.YtncbhnmhaoblaaaM11
import Derived.Test.YtncbhnmhaoblaaaM19
import Derived.Test.YtncbhnmhaoblaaaM12
namespace Go.Proofs.Ytncbhnmhaoblaaa
open Go.RowKit

/-- How many rows are kept, of whatever numbers. -/
def cntK (n e : Int) : Nat := if 0 ≤ n ∧ n ≤ 1048576 ∧ 1 ≤ e then (n.toNat - 1) / e.toNat + 1 else 0
/-- Which. -/
def keptI (n e : Int) : List Int := if 0 ≤ n ∧ n ≤ 1048576 ∧ 1 ≤ e then keptL e.toNat n.toNat else []
theorem keptI_length (n e : Int) : (keptI n e).length = cntK n e := by
  unfold keptI cntK
  by_cases h : 0 ≤ n ∧ n ≤ 1048576 ∧ 1 ≤ e
  · rw [if_pos h, if_pos h, kept_len (by omega)]
  · rw [if_neg h, if_neg h]; rfl
theorem keptI_no {n e : Int} (h : ¬ (0 ≤ n ∧ n ≤ 1048576 ∧ 1 ≤ e)) : keptI n e = [] := if_neg h
theorem cntK_no {n e : Int} (h : ¬ (0 ≤ n ∧ n ≤ 1048576 ∧ 1 ≤ e)) : cntK n e = 0 := if_neg h
theorem cntK_in {n e : Nat} (hn : n ≤ 1048576) (he : 1 ≤ e) : cntK n e = (n - 1) / e + 1 := by
  unfold cntK
  rw [if_pos (by omega)]
  rfl
theorem keptI_in {n e : Nat} (hn : n ≤ 1048576) (he : 1 ≤ e) : keptI n e = keptL e n := by
  unfold keptI
  rw [if_pos (by omega)]
  rfl
theorem cntK_le (n e : Int) : cntK n e ≤ 1048576 := by
  unfold cntK
  split
  · rename_i h
    have := Nat.div_le_self (n.toNat - 1) e.toNat
    omega
  · omega

set_option maxRecDepth 100000 in
set_option maxHeartbeats 1600000 in
theorem wcount_any (n e : Int) (w : World) (hI : I64 n) (hE : I64 e) :
    Calls Try.prog 29 #[.int .i64 n, .int .i64 e] w fun x w' => x = .returned (.int .i64 (cntK n e : Nat)) ∧ w' = w := by
  obtain ⟨i1, i2⟩ := hI
  obtain ⟨e1, e2⟩ := hE
  by_cases h1 : n < 0
  · rw [cntK_no (by omega)]
    go_enter Try.func29, Try.ntmps29
    go_wp2_with fail
    all_goals (go_ret; exact ⟨rfl, rfl⟩)
  by_cases h2 : 1048576 < n
  · rw [cntK_no (by omega)]
    go_enter Try.func29, Try.ntmps29
    go_wp2_with fail
    all_goals (go_ret; exact ⟨rfl, rfl⟩)
  by_cases h3 : e < 1
  · rw [cntK_no (by omega)]
    go_enter Try.func29, Try.ntmps29
    go_wp2_with fail
    all_goals (go_ret; exact ⟨rfl, rfl⟩)
  obtain ⟨N, rfl⟩ : ∃ N : Nat, n = (N : Int) := ⟨n.toNat, by omega⟩
  obtain ⟨E, rfl⟩ : ∃ E : Nat, e = (E : Int) := ⟨e.toNat, by omega⟩
  rw [cntK_in (by omega) (by omega)]
  have hq := Nat.div_le_self (N - 1) E
  have hz : ¬ ((E : Int) = 0) := by omega
  have hz1 : ¬ ((E : Int) = -1) := by omega
  by_cases h0 : N = 0
  · subst h0
    have z1 : ¬ (0 < (0 : Int) - 1) := by omega
    have z2 : (0 : Int) - 1 < 0 := by omega
    have z3 : max ((0 : Int) - 1) 0 = 0 := by omega
    have q1 : (0 : Int).tdiv (E : Int) = ((0 : Nat) : Int) := by simp
    have HQ : Hid ((0 - 1) / E + 1 = 1) := by show _ = _; simp
    rw [HQ.out]
    clear h1 h2 hq
    go_enter Try.func29, Try.ntmps29
    go_wp2_with fail
    go_ret
    exact ⟨rfl, rfl⟩
  · obtain ⟨M, hM⟩ : ∃ M, N - 1 = M := ⟨_, rfl⟩
    rw [hM] at hq ⊢
    have z1 : (N : Int) - 1 = (M : Int) := by omega
    have z2 : ¬ ((M : Int) < 0) := by omega
    have z3 : max (M : Int) 0 = (M : Int) := by omega
    have q1 : (M : Int).tdiv (E : Int) = ((M / E : Nat) : Int) := by rw [Int.tdiv_eq_ediv_of_nonneg (by omega)]; rfl
    generalize M / E = Q at *
    clear h0
    go_enter Try.func29, Try.ntmps29
    go_wp2_with fail
    go_ret
    exact ⟨rfl, rfl⟩

end Go.Proofs.Ytncbhnmhaoblaaa
