/-
  Words and contracts that the proof leans on.
-/
import Derived.Test.YtncbhnmhaoblaaaM22
import Derived.Test.YtncbhnmhaoblaaaM23
namespace Go.Proofs.Ytncbhnmhaoblaaa
open Go.RowKit

/-- Bit j of row i: the row does not go up there. -/
def vB (x y : List Int) (i j : Nat) : Bool := decide (px x y i (j + 1) = px x y i j)
section
variable {x y : List Int} {i : Nat}
theorem vB_first (j : Nat) : vB x y 0 j = true := by unfold vB; rw [px_zero_left, px_zero_left]; rfl
theorem vB_no {j : Nat} : vB x y i j = false ↔ px x y i (j + 1) = px x y i j + 1 := by
  have h := px_h x y i j
  unfold vB
  rw [decide_eq_false_iff_not]
  omega
/-- The carry is where the next row is greater already. -/
theorem hy_carry {c : Nat → Bool} (h0 : c 0 = false) (hc : ∀ j, c (j + 1) = (vB x y i j && (vB x y i j && alikeAt x y i j) || vB x y i j && c j || (vB x y i j && alikeAt x y i j) && c j)) : ∀ j, c j = decide (px x y (i + 1) j = px x y i j + 1)
  | 0 => by rw [h0, px_zero_right, px_zero_right]; rfl
  | j + 1 => by
    have ih := hy_carry h0 hc j
    have e := px_step x y i j
    have h1 := px_h x y i j
    have h2 := px_v x y i j
    have h3 := px_v x y i (j + 1)
    rw [hc j, ih]
    have hv : vB x y i j = decide (px x y i (j + 1) = px x y i j) := rfl
    rw [hv]
    cases ha : alikeAt x y i j with
    | true =>
      rw [ha, if_pos rfl] at e
      rw [e]
      by_cases h4 : px x y i (j + 1) = px x y i j
      · simp [h4]
      · simp [h4]
        omega
    | false =>
      rw [ha, if_neg (by decide)] at e
      rw [e]
      by_cases h4 : px x y i (j + 1) = px x y i j
      · by_cases h5 : px x y (i + 1) j = px x y i j + 1
        · simp [h4, h5]
        · simp [h4, h5]
          omega
      · simp [h4]
        omega
/-- The next row, bit by bit. -/
theorem hy_step {c : Nat → Bool} (h0 : c 0 = false) (hc : ∀ j, c (j + 1) = (vB x y i j && (vB x y i j && alikeAt x y i j) || vB x y i j && c j || (vB x y i j && alikeAt x y i j) && c j)) (j : Nat) :
    (((vB x y i j != (vB x y i j && alikeAt x y i j)) != c j) || (vB x y i j && !(alikeAt x y i j))) = vB x y (i + 1) j := by
  have ih := hy_carry h0 hc j
  have e := px_step x y i j
  have h1 := px_h x y i j
  have h2 := px_v x y i j
  have h3 := px_v x y i (j + 1)
  have h4 := px_h x y (i + 1) j
  rw [ih]
  have hv : vB x y i j = decide (px x y i (j + 1) = px x y i j) := rfl
  have hv' : vB x y (i + 1) j = decide (px x y (i + 1) (j + 1) = px x y (i + 1) j) := rfl
  rw [hv, hv']
  cases ha : alikeAt x y i j with
  | true =>
    rw [ha, if_pos rfl] at e
    by_cases h5 : px x y i (j + 1) = px x y i j <;> by_cases h6 : px x y (i + 1) j = px x y i j + 1 <;> by_cases h7 : px x y (i + 1) (j + 1) = px x y (i + 1) j <;> first | (exfalso; omega) | simp [h5, h6, h7]
  | false =>
    rw [ha, if_neg (by decide)] at e
    by_cases h5 : px x y i (j + 1) = px x y i j <;> by_cases h6 : px x y (i + 1) j = px x y i j + 1 <;> by_cases h7 : px x y (i + 1) (j + 1) = px x y (i + 1) j <;> first | (exfalso; omega) | simp [h5, h6, h7]
/-- Nothing is lent where what is taken away is there. -/
theorem bor_none {v z c : Nat → Bool} (h0 : c 0 = false) (hz : ∀ j, z j = true → v j = true) (hc : ∀ j, c (j + 1) = (!v j && z j || !v j && c j || z j && c j)) : ∀ j, c j = false
  | 0 => h0
  | j + 1 => by
    rw [hc j, bor_none h0 hz hc j]
    have := hz j
    cases hv : v j <;> cases h : z j <;> simp_all
end

/-- The way back from a place of the table. -/
def wayL (x y : List Int) (i j : Nat) : List Pr :=
  match i, j with
  | 0, _ => []
  | _ + 1, 0 => []
  | i + 1, j + 1 => if vB x y (i + 1) j = true then wayL x y (i + 1) j else if alikeAt x y i j = true then wayL x y i j ++ [((i : Int), (j : Int))] else wayL x y i (j + 1)
  termination_by i + j
theorem way_top (x y : List Int) (j : Nat) : wayL x y 0 j = [] := by unfold wayL; rfl
theorem way_left (x y : List Int) (i : Nat) : wayL x y i 0 = [] := by
  cases i
  · exact way_top x y 0
  · unfold wayL; rfl
theorem way_stay {x y : List Int} {i j : Nat} (h : vB x y (i + 1) j = true) : wayL x y (i + 1) (j + 1) = wayL x y (i + 1) j := by rw [wayL, if_pos h]
theorem way_pair {x y : List Int} {i j : Nat} (h : vB x y (i + 1) j = false) (ha : alikeAt x y i j = true) : wayL x y (i + 1) (j + 1) = wayL x y i j ++ [((i : Int), (j : Int))] := by rw [wayL, if_neg (by rw [h]; decide), if_pos ha]
theorem way_up {x y : List Int} {i j : Nat} (h : vB x y (i + 1) j = false) (ha : alikeAt x y i j = false) : wayL x y (i + 1) (j + 1) = wayL x y i (j + 1) := by rw [wayL, if_neg (by rw [h]; decide), if_neg (by rw [ha]; decide)]
theorem alike_some {x y : List Int} {i j : Nat} (h : alikeAt x y i j = true) : ∃ u, x[i]? = some u ∧ y[j]? = some u := by
  unfold alikeAt at h
  cases h1 : x[i]? with
  | none => rw [h1] at h; cases h
  | some u =>
    cases h2 : y[j]? with
    | none => rw [h1, h2] at h; cases h
    | some v =>
      rw [h1, h2] at h
      have : u = v := by simpa using h
      exact ⟨u, rfl, by rw [this]⟩
/-- It is a good list up to the place, as long as may be. -/
theorem way_is (x y : List Int) : ∀ (s i j : Nat), i + j = s → OkTo x y (wayL x y i j) i j ∧ (wayL x y i j).length = px x y i j := by
  intro s
  induction s using Nat.strongRecOn with
  | ind s ih =>
    intro i j hs
    cases i with
    | zero => rw [way_top, px_zero_left]; exact ⟨⟨rfl, fun p hp => by cases hp⟩, rfl⟩
    | succ i =>
      cases j with
      | zero => rw [way_left, px_zero_right]; exact ⟨⟨rfl, fun p hp => by cases hp⟩, rfl⟩
      | succ j =>
        have e := px_step x y i j
        cases hv : vB x y (i + 1) j with
        | true =>
          rw [way_stay hv]
          obtain ⟨h1, h2⟩ := ih _ (by omega) (i + 1) j rfl
          have : px x y (i + 1) (j + 1) = px x y (i + 1) j := by unfold vB at hv; exact of_decide_eq_true hv
          exact ⟨ok_more h1 (Nat.le_refl _) (by omega), by omega⟩
        | false =>
          have hv' := vB_no.1 hv
          cases ha : alikeAt x y i j with
          | true =>
            rw [way_pair hv ha]
            obtain ⟨h1, h2⟩ := ih _ (by omega) i j rfl
            obtain ⟨u, q1, q2⟩ := alike_some ha
            rw [ha, if_pos rfl] at e
            refine ⟨ok_snoc h1 q1 q2, ?_⟩
            rw [List.length_append, h2, e]
            rfl
          | false =>
            rw [way_up hv ha]
            obtain ⟨h1, h2⟩ := ih _ (by omega) i (j + 1) rfl
            rw [ha, if_neg (by decide)] at e
            exact ⟨ok_more h1 (by omega) (Nat.le_refl _), by omega⟩
end Go.Proofs.Ytncbhnmhaoblaaa
