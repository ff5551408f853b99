/-
  Words and contracts that the proof leans on.
-/
import Derived.Test.YtncbhnmhaoblaaaM24
import Derived.Test.YtncbhnmhaoblaaaM8
namespace Go.Proofs.Ytncbhnmhaoblaaa

/-- A row's bits below the width. -/
def cutB (N : Nat) (v : Nat → Bool) (j : Nat) : Bool := decide (j < N) && v j
/-- Row, bit by bit: sum or difference, of what the row holds and what both hold. -/
def rowF (N : Nat) (v u : Nat → Bool) (j : Nat) : Bool :=
  cutB N (fun j => ((cutB N v j != (cutB N v j && cutB N u j)) != car (cutB N v) (fun j => cutB N v j && cutB N u j) j) || ((cutB N v j != (cutB N v j && cutB N u j)) != bor (cutB N v) (fun j => cutB N v j && cutB N u j) j)) j
theorem rowF_eq (N : Nat) (v u : Nat → Bool) (j : Nat) : rowF N v u j = (decide (j < N) && (((cutB N v j != (cutB N v j && cutB N u j)) != car (cutB N v) (fun j => cutB N v j && cutB N u j) j) || ((cutB N v j != (cutB N v j && cutB N u j)) != bor (cutB N v) (fun j => cutB N v j && cutB N u j) j))) := rfl
theorem bor_same (v u : Nat → Bool) (j : Nat) : bor v (fun j => v j && u j) j = false := by
  refine bor_none (v := v) (z := fun j => v j && u j) rfl (fun j h => ?_) (fun j => rfl) j
  simp only [Bool.and_eq_true] at h
  exact h.1
/-- The carry, as a function of its own. -/
def ccB (x y : List Int) (i : Nat) : Nat → Bool
  | 0 => false
  | j + 1 => (vB x y i j && (vB x y i j && alikeAt x y i j) || vB x y i j && ccB x y i j || (vB x y i j && alikeAt x y i j) && ccB x y i j)
theorem car_is {x y : List Int} {i N : Nat} {v u : Nat → Bool} (hv : ∀ j, j < N → v j = vB x y i j) (hu : ∀ j, j < N → u j = alikeAt x y i j) : ∀ j, j ≤ N → car (cutB N v) (fun j => cutB N v j && cutB N u j) j = ccB x y i j
  | 0, _ => rfl
  | j + 1, h => by
    have e1 : cutB N v j = vB x y i j := by unfold cutB; rw [decide_eq_true (by omega), Bool.true_and, hv j (by omega)]
    have e2 : cutB N u j = alikeAt x y i j := by unfold cutB; rw [decide_eq_true (by omega), Bool.true_and, hu j (by omega)]
    show (cutB N v j && (cutB N v j && cutB N u j) || cutB N v j && car _ _ j || (cutB N v j && cutB N u j) && car _ _ j) = _
    rw [car_is hv hu j (by omega), e1, e2]
    rfl
theorem row_next {x y : List Int} {i N : Nat} {v u : Nat → Bool} (hv : ∀ j, j < N → v j = vB x y i j) (hu : ∀ j, j < N → u j = alikeAt x y i j) (j : Nat) (h : j < N) : rowF N v u j = vB x y (i + 1) j := by
  have e1 : cutB N v j = vB x y i j := by unfold cutB; rw [decide_eq_true h, Bool.true_and, hv j h]
  have e2 : cutB N u j = alikeAt x y i j := by unfold cutB; rw [decide_eq_true h, Bool.true_and, hu j h]
  have hs := hy_step (x := x) (y := y) (i := i) (c := ccB x y i) rfl (fun j => rfl) j
  rw [rowF_eq, decide_eq_true h, Bool.true_and, bor_same (cutB N v) (cutB N u), car_is hv hu j (by omega), e1, e2, ← hs]
  cases vB x y i j <;> cases alikeAt x y i j <;> cases ccB x y i j <;> rfl
/-- Nothing beyond the width. -/
theorem row_past {N : Nat} {v u : Nat → Bool} {j : Nat} (h : N ≤ j) : rowF N v u j = false := by
  unfold rowF cutB
  rw [decide_eq_false (by omega), Bool.false_and]
/-- Rows one after another, each one's mask told: they are the table's. -/
def rowsF (N : Nat) (u : Nat → Nat → Bool) : Nat → Nat → Bool
  | 0 => cutB N (fun _ => true)
  | i + 1 => rowF N (rowsF N u i) (u i)
theorem rows_are {x y : List Int} {N : Nat} {u : Nat → Nat → Bool} (hu : ∀ i j, j < N → u i j = alikeAt x y i j) : ∀ i j, j < N → rowsF N u i j = vB x y i j
  | 0, j, h => by
    show (decide (j < N) && true) = _
    rw [decide_eq_true h, vB_first]
    rfl
  | i + 1, j, h => row_next (rows_are hu i) (hu i) j h
end Go.Proofs.Ytncbhnmhaoblaaa
