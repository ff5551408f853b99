/-
  Chapter 14, plain: squares of a table of lengths.
-/
import Derived.Test.YtnocjkpjihpphaaTlP
import Derived.Test.YtnocjkpjihpphaaGrP
namespace Go.Proofs.Ytnocjkpjihpphaa

theorem take_pad {a : List Int} {r : Nat} (h : a[r]? = none) : a.take (r + 1) = a.take r := by
  have := List.getElem?_eq_none_iff.1 h
  rw [List.take_of_length_le (by omega), List.take_of_length_le this]
theorem px_pad_left {a b : List Int} {r : Nat} (c : Nat) (h : a[r]? = none) : px a b (r + 1) c = px a b r c := by unfold px; rw [take_pad h]
theorem px_pad_right {a b : List Int} {c : Nat} (r : Nat) (h : b[c]? = none) : px a b r (c + 1) = px a b r c := by unfold px; rw [take_pad h]
/-- Steps down columns are 0 or 1. -/
theorem px_v (a b : List Int) (r c : Nat) : px a b r c ≤ px a b (r + 1) c ∧ px a b (r + 1) c ≤ px a b r c + 1 := by
  cases h : a[r]? with
  | none => rw [px_pad_left c h]; omega
  | some x =>
    unfold px
    rw [take_snoc h]
    have := lcs_grow_back (a.take r) (b.take c) x
    omega
theorem px_comm (a b : List Int) (r c : Nat) : px a b r c = px b a c r := by unfold px; rw [lcs_comm]
/-- Steps along rows are 0 or 1. -/
theorem px_h (a b : List Int) (r c : Nat) : px a b r c ≤ px a b r (c + 1) ∧ px a b r (c + 1) ≤ px a b r c + 1 := by
  rw [px_comm a b r c, px_comm a b r (c + 1)]
  exact px_v b a c r
/-- The same number stands at both places. -/
def alikeAt (a b : List Int) (r c : Nat) : Bool := match a[r]?, b[c]? with | some x, some y => x == y | _, _ => false
theorem px_step (a b : List Int) (r c : Nat) : px a b (r + 1) (c + 1) = if alikeAt a b r c = true then px a b r c + 1 else max (px a b r (c + 1)) (px a b (r + 1) c) := by
  unfold alikeAt
  cases h1 : a[r]? with
  | none =>
    simp only [Bool.false_eq_true, if_false]
    rw [px_pad_left (c + 1) h1, px_pad_left c h1]
    have := px_h a b r c
    omega
  | some x =>
    cases h2 : b[c]? with
    | none =>
      simp only [Bool.false_eq_true, if_false]
      rw [px_pad_right (r + 1) h2, px_pad_right r h2]
      have := px_v a b r c
      omega
    | some y =>
      by_cases e : x = y
      · subst e
        simp only [beq_self_eq_true, if_true]
        exact px_same h1 h2
      · have e' : (x == y) = false := by simpa using e
        simp only [e', Bool.false_eq_true, if_false]
        exact px_other h1 h2 e

/-- A square that stands at (i, j) of the table. -/
structure Stands (a b : List Int) (t eq top left i j : Nat) : Prop where
  alike : ∀ r c, r < t → c < t → bitN eq (r * t + c) = if alikeAt a b (i + r) (j + c) = true then 1 else 0
  top : ∀ c, c < t → bitN top c = px a b i (j + c + 1) - px a b i (j + c)
  left : ∀ r, r < t → bitN left r = px a b (i + r + 1) j - px a b (i + r) j
theorem stands_at {a b : List Int} {t eq top left i j : Nat} (h : Stands a b t eq top left i j) : ∀ r c, r ≤ t → c ≤ t → px a b i j + sqN t eq top left r c = px a b (i + r) (j + c)
  | 0, 0, _, _ => by rw [sqN_top]; rfl
  | 0, c + 1, h1, h2 => by
    have := stands_at h 0 c h1 (by omega)
    have e := h.top c (by omega)
    have g := px_h a b i (j + c)
    have e2 : px a b (i + 0) (j + (c + 1)) = px a b i (j + c + 1) := rfl
    have e3 : px a b (i + 0) (j + c) = px a b i (j + c) := rfl
    rw [sqN_top, sumN, ← sqN_top t eq top left, e]
    omega
  | r + 1, 0, h1, h2 => by
    have := stands_at h r 0 (by omega) h2
    have e := h.left r (by omega)
    have g := px_v a b (i + r) j
    have e2 : px a b (i + (r + 1)) (j + 0) = px a b (i + r + 1) j := rfl
    have e3 : px a b (i + r) (j + 0) = px a b (i + r) j := rfl
    rw [sqN_left, sumN, ← sqN_left t eq top left, e]
    omega
  | r + 1, c + 1, h1, h2 => by
    have f1 := stands_at h r c (by omega) (by omega)
    have f2 := stands_at h r (c + 1) (by omega) h2
    have f3 := stands_at h (r + 1) c h1 (by omega)
    have e := h.alike r c (by omega) (by omega)
    rw [← Nat.add_assoc] at f2 f3 ⊢
    have g := px_step a b (i + r) (j + c)
    rw [← Nat.add_assoc, g]
    have q : sqN t eq top left (r + 1) (c + 1) = if bitN eq (r * t + c) = 1 then sqN t eq top left r c + 1 else max (sqN t eq top left r (c + 1)) (sqN t eq top left (r + 1) c) := by
      unfold sqN
      rw [sq_rc]
      simp
    rw [q, e]
    by_cases hh : alikeAt a b (i + r) (j + c) = true
    · simp only [hh, if_true]
      omega
    · rw [if_neg hh, if_neg hh, if_neg (by decide)]
      omega
termination_by r c => (r, c)
theorem stands_bot {a b : List Int} {t eq top left i j : Nat} (h : Stands a b t eq top left i j) {k : Nat} (hk : k < t) : bitN (botN t eq top left) k = px a b (i + t) (j + k + 1) - px a b (i + t) (j + k) := by
  have h1 := stands_at h t k (Nat.le_refl _) (by omega)
  have h2 := stands_at h t (k + 1) (Nat.le_refl _) hk
  unfold botN
  rw [num_bit (botF_le t eq top left) t k hk]
  unfold botF
  rw [← Nat.add_assoc] at h2
  omega
theorem stands_rgt {a b : List Int} {t eq top left i j : Nat} (h : Stands a b t eq top left i j) {k : Nat} (hk : k < t) : bitN (rgtN t eq top left) k = px a b (i + k + 1) (j + t) - px a b (i + k) (j + t) := by
  have h1 := stands_at h k t (by omega) (Nat.le_refl _)
  have h2 := stands_at h (k + 1) t hk (Nat.le_refl _)
  unfold rgtN
  rw [num_bit (rgtF_le t eq top left) t k hk]
  unfold rgtF
  rw [← Nat.add_assoc] at h2
  omega
/-- The steps of a row add up to its last number. -/
theorem px_sum (a b : List Int) (r : Nat) : ∀ c, sumN (fun k => px a b r (k + 1) - px a b r k) c = px a b r c
  | 0 => by rw [px_zero_right]; rfl
  | c + 1 => by have := px_sum a b r c; have := px_h a b r c; rw [sumN]; omega
theorem px_beyond (a b : List Int) {r c : Nat} (hr : a.length ≤ r) (hc : b.length ≤ c) : px a b r c = lcs a b := by unfold px; rw [List.take_of_length_le hr, List.take_of_length_le hc]
/-- How many squares of side t a length takes. -/
def upN (n t : Nat) : Nat := (n + t - 1) / t
theorem upN_ge {n t : Nat} (ht : 1 ≤ t) : n ≤ upN n t * t := by
  unfold upN
  have h1 := Nat.div_add_mod (n + t - 1) t
  have h2 := Nat.mod_lt (n + t - 1) ht
  rw [Nat.mul_comm] at h1
  omega
theorem upN_mono {n m t : Nat} (h : n ≤ m) : upN n t ≤ upN m t := Nat.div_le_div_right (by omega)
theorem upN_le {n s t : Nat} (hs : 1 ≤ s) (h : s ≤ t) : upN n t ≤ upN n s := by
  unfold upN
  rw [Nat.div_le_iff_le_mul_add_pred (by omega)]
  have h1 := upN_ge (n := n) hs
  unfold upN at h1
  have h2 := Nat.mul_le_mul_left ((n + s - 1) / s) h
  rw [Nat.mul_comm t]
  omega

end Go.Proofs.Ytnocjkpjihpphaa
