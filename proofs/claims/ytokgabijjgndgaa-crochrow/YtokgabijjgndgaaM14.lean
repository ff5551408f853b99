/-
  Words and contracts that the proof leans on.
-/
import Derived.Test.YtokgabijjgndgaaM12
import Derived.Test.YtokgabijjgndgaaM13
namespace Go.Proofs.Ytokgabijjgndgaa
open Go.RowKit

/-- Bit j of row i: the row does not go up there. -/
def vB (x y : List Int) (i j : Nat) : Bool := decide (px x y i (j + 1) = px x y i j)
section
variable {x y : List Int} {i : Nat}
theorem vB_first (j : Nat) : vB x y 0 j = true := by unfold vB; rw [px_zero_left, px_zero_left]; rfl
theorem vB_no {j : Nat} : vB x y i j = false ↔ px x y i (j + 1) = px x y i j + 1 := by
  have h := px_h x y i j
  unfold vB
  rw [decide_eq_false_iff_not]
  omega
/-- The carry is where the next row is greater already. -/
theorem hy_carry {c : Nat → Bool} (h0 : c 0 = false) (hc : ∀ j, c (j + 1) = (vB x y i j && (vB x y i j && alikeAt x y i j) || vB x y i j && c j || (vB x y i j && alikeAt x y i j) && c j)) : ∀ j, c j = decide (px x y (i + 1) j = px x y i j + 1)
  | 0 => by rw [h0, px_zero_right, px_zero_right]; rfl
  | j + 1 => by
    have ih := hy_carry h0 hc j
    have e := px_step x y i j
    have h1 := px_h x y i j
    have h2 := px_v x y i j
    have h3 := px_v x y i (j + 1)
    rw [hc j, ih]
    have hv : vB x y i j = decide (px x y i (j + 1) = px x y i j) := rfl
    rw [hv]
    cases ha : alikeAt x y i j with
    | true =>
      rw [ha, if_pos rfl] at e
      rw [e]
      by_cases h4 : px x y i (j + 1) = px x y i j
      · simp [h4]
      · simp [h4]
        omega
    | false =>
      rw [ha, if_neg (by decide)] at e
      rw [e]
      by_cases h4 : px x y i (j + 1) = px x y i j
      · by_cases h5 : px x y (i + 1) j = px x y i j + 1
        · simp [h4, h5]
        · simp [h4, h5]
          omega
      · simp [h4]
        omega
/-- The next row, bit by bit. -/
theorem hy_step {c : Nat → Bool} (h0 : c 0 = false) (hc : ∀ j, c (j + 1) = (vB x y i j && (vB x y i j && alikeAt x y i j) || vB x y i j && c j || (vB x y i j && alikeAt x y i j) && c j)) (j : Nat) :
    (((vB x y i j != (vB x y i j && alikeAt x y i j)) != c j) || (vB x y i j && !(alikeAt x y i j))) = vB x y (i + 1) j := by
  have ih := hy_carry h0 hc j
  have e := px_step x y i j
  have h1 := px_h x y i j
  have h2 := px_v x y i j
  have h3 := px_v x y i (j + 1)
  have h4 := px_h x y (i + 1) j
  rw [ih]
  have hv : vB x y i j = decide (px x y i (j + 1) = px x y i j) := rfl
  have hv' : vB x y (i + 1) j = decide (px x y (i + 1) (j + 1) = px x y (i + 1) j) := rfl
  rw [hv, hv']
  cases ha : alikeAt x y i j with
  | true =>
    rw [ha, if_pos rfl] at e
    by_cases h5 : px x y i (j + 1) = px x y i j <;> by_cases h6 : px x y (i + 1) j = px x y i j + 1 <;> by_cases h7 : px x y (i + 1) (j + 1) = px x y (i + 1) j <;> first | (exfalso; omega) | simp [h5, h6, h7]
  | false =>
    rw [ha, if_neg (by decide)] at e
    by_cases h5 : px x y i (j + 1) = px x y i j <;> by_cases h6 : px x y (i + 1) j = px x y i j + 1 <;> by_cases h7 : px x y (i + 1) (j + 1) = px x y (i + 1) j <;> first | (exfalso; omega) | simp [h5, h6, h7]
/-- Nothing is lent where what is taken away is there. -/
theorem bor_none {v z c : Nat → Bool} (h0 : c 0 = false) (hz : ∀ j, z j = true → v j = true) (hc : ∀ j, c (j + 1) = (!v j && z j || !v j && c j || z j && c j)) : ∀ j, c j = false
  | 0 => h0
  | j + 1 => by
    rw [hc j, bor_none h0 hz hc j]
    have := hz j
    cases hv : v j <;> cases h : z j <;> simp_all
end

end Go.Proofs.Ytokgabijjgndgaa
