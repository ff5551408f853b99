/-
  Words and contracts that the proof leans on.
-/
import Derived.Test.YtncbhnmhaoblaaaM7
import Derived.Deep.DeepCutAuto
namespace Go.Proofs.Ytncbhnmhaoblaaa
open Go.RowKit

/-- The carry into bit i. -/
def car (a b : Nat → Bool) : Nat → Bool
  | 0 => false
  | i + 1 => a i && b i || a i && car a b i || b i && car a b i
/-- What is lent to bit i. -/
def bor (a b : Nat → Bool) : Nat → Bool
  | 0 => false
  | i + 1 => !a i && b i || !a i && bor a b i || b i && bor a b i
def sumB (x y : List Nat) (j : Nat) : Bool := (bt x j != bt y j) != car (bt x) (bt y) j
end Go.Proofs.Ytncbhnmhaoblaaa

namespace Go.Proofs.Ytncbhnmhaoblaaa
open Go.RowKit


end Go.Proofs.Ytncbhnmhaoblaaa

namespace Go.Proofs.Ytncbhnmhaoblaaa
open Go.RowKit


end Go.Proofs.Ytncbhnmhaoblaaa

namespace Go.Proofs.Ytncbhnmhaoblaaa
open Go.RowKit


end Go.Proofs.Ytncbhnmhaoblaaa

namespace Go.Proofs.Ytncbhnmhaoblaaa
open Go.RowKit

end Go.Proofs.Ytncbhnmhaoblaaa

namespace Go.Proofs.Ytncbhnmhaoblaaa

/-- The number that the words are. -/
def val : List Nat → Nat
  | [] => 0
  | u :: x => u + 2 ^ 64 * val x
theorem val_bit : ∀ (x : List Nat), Wd x → ∀ j, (val x).testBit j = bt x j
  | [], _, j => by simp [val, bt]
  | u :: x, h, j => by
    have hu : u < 2 ^ 64 := h u List.mem_cons_self
    have ih := val_bit x (fun v hv => h v (List.mem_cons_of_mem _ hv))
    rw [val, Nat.add_comm, Nat.testBit_two_pow_mul_add _ hu]
    unfold bt
    split
    · rw [show j / 64 = 0 by omega, show j % 64 = j by omega]
      rfl
    · rw [ih, bt, show j / 64 = (j - 64) / 64 + 1 by omega, show (j - 64) % 64 = j % 64 by omega]
      rfl
theorem mod_step (a j : Nat) : a % 2 ^ (j + 1) = a % 2 ^ j + (if a.testBit j = true then 2 ^ j else 0) := by
  rw [Nat.pow_succ, Nat.mod_mul, Nat.testBit_eq_decide_div_mod_eq]
  by_cases g : a / 2 ^ j % 2 = 1
  · simp [g]
  · have g0 : a / 2 ^ j % 2 = 0 := by omega
    simp [g0]
theorem car_eq (a b : Nat) : ∀ j, car a.testBit b.testBit j = decide (2 ^ j ≤ a % 2 ^ j + b % 2 ^ j)
  | 0 => by simp [car, Nat.mod_one]
  | j + 1 => by
    rw [car, car_eq a b j, mod_step a j, mod_step b j]
    have hA : a % 2 ^ j < 2 ^ j := Nat.mod_lt _ (Nat.two_pow_pos j)
    have hB : b % 2 ^ j < 2 ^ j := Nat.mod_lt _ (Nat.two_pow_pos j)
    rw [Nat.pow_succ]
    generalize a % 2 ^ j = A at *
    generalize b % 2 ^ j = B at *
    generalize 2 ^ j = P at *
    by_cases h : P ≤ A + B
    · rw [decide_eq_true h]
      cases a.testBit j <;> cases b.testBit j <;> simp <;> omega
    · rw [decide_eq_false h]
      cases a.testBit j <;> cases b.testBit j <;> simp <;> omega
theorem add_bits (a b j : Nat) : (a + b).testBit j = ((a.testBit j != b.testBit j) != car a.testBit b.testBit j) := by
  rw [car_eq]
  have h := mod_step (a + b) j
  have ha := mod_step a j
  have hb := mod_step b j
  have hA : a % 2 ^ j < 2 ^ j := Nat.mod_lt _ (Nat.two_pow_pos j)
  have hB : b % 2 ^ j < 2 ^ j := Nat.mod_lt _ (Nat.two_pow_pos j)
  have e1 : (a + b) % 2 ^ (j + 1) = (a % 2 ^ (j + 1) + b % 2 ^ (j + 1)) % 2 ^ (j + 1) := Nat.add_mod _ _ _
  have e2 : (a + b) % 2 ^ j = (a % 2 ^ j + b % 2 ^ j) % 2 ^ j := Nat.add_mod _ _ _
  rw [e1, e2, ha, hb, Nat.pow_succ] at h
  generalize a % 2 ^ j = A at *
  generalize b % 2 ^ j = B at *
  have hP := Nat.two_pow_pos j
  generalize 2 ^ j = P at *
  have mod1 : ∀ n, n < P → n % P = n := fun n h => Nat.mod_eq_of_lt h
  have mod2 : ∀ n, P ≤ n → n < P * 2 → n % P = n - P := fun n h1 h2 => by rw [Nat.mod_eq_sub_mod h1, Nat.mod_eq_of_lt (by omega)]
  have mod3 : ∀ n, n < P * 2 → n % (P * 2) = n := fun n h => Nat.mod_eq_of_lt h
  have mod4 : ∀ n, P * 2 ≤ n → n < P * 4 → n % (P * 2) = n - P * 2 := fun n h1 h2 => by rw [Nat.mod_eq_sub_mod h1, Nat.mod_eq_of_lt (by omega)]
  by_cases hc : P ≤ A + B
  · rw [decide_eq_true hc]
    rw [mod2 (A + B) hc (by omega)] at h
    cases hx : a.testBit j <;> cases hy : b.testBit j <;> cases hz : (a + b).testBit j <;> rw [hx, hy, hz] at h <;> simp at h ⊢
    all_goals first
      | (rw [mod3 _ (by omega)] at h; omega)
      | (rw [mod4 _ (by omega) (by omega)] at h; omega)
  · rw [decide_eq_false hc]
    rw [mod1 (A + B) (by omega)] at h
    cases hx : a.testBit j <;> cases hy : b.testBit j <;> cases hz : (a + b).testBit j <;> rw [hx, hy, hz] at h <;> simp at h ⊢
    all_goals first
      | (rw [mod3 _ (by omega)] at h; omega)
      | (rw [mod4 _ (by omega) (by omega)] at h; omega)

/-- A difference's bits: d + b is a, below bit M. -/
theorem sub_bits {a b d M : Nat} (h : ∀ j, j < M → (d + b).testBit j = a.testBit j) : ∀ j, j ≤ M → (car d.testBit b.testBit j = bor a.testBit b.testBit j ∧ (j < M → d.testBit j = ((a.testBit j != b.testBit j) != bor a.testBit b.testBit j))) := by
  have bit : ∀ j, j < M → car d.testBit b.testBit j = bor a.testBit b.testBit j → d.testBit j = ((a.testBit j != b.testBit j) != bor a.testBit b.testBit j) := by
    intro j hj e
    have h1 := h j hj
    rw [add_bits, e] at h1
    revert h1
    generalize bor a.testBit b.testBit j = Z
    generalize d.testBit j = D
    generalize a.testBit j = X
    generalize b.testBit j = Y
    cases D <;> cases X <;> cases Y <;> cases Z <;> simp
  intro j
  induction j with
  | zero => exact fun _ => ⟨rfl, fun hj => bit 0 hj rfl⟩
  | succ j ih =>
    intro hj
    obtain ⟨c1, c2⟩ := ih (by omega)
    have c3 := c2 (by omega)
    have e : car d.testBit b.testBit (j + 1) = bor a.testBit b.testBit (j + 1) := by
      rw [car, bor, c1, c3]
      cases a.testBit j <;> cases b.testBit j <;> cases bor a.testBit b.testBit j <;> rfl
    exact ⟨e, fun hj => bit (j + 1) hj e⟩

end Go.Proofs.Ytncbhnmhaoblaaa
