/-
  What two lists have in common at both ends. Plain lists.
-/
import Derived.Test.YtdkcgehjokdnoaaLcs
namespace Go.Proofs.Ytdkcgehjokdnoaa

/-- How long the longest common prefix is. -/
def pre : List Int → List Int → Nat
  | x :: a, y :: b => if x = y then pre a b + 1 else 0
  | [], _ => 0
  | _ :: _, [] => 0

theorem pre_take : ∀ a b : List Int, a.take (pre a b) = b.take (pre a b)
  | [], b => by simp [pre]
  | x :: a, [] => by simp [pre]
  | x :: a, y :: b => by
    unfold pre
    split
    · subst x; simp [pre_take a b]
    · simp
theorem pre_le_left : ∀ a b : List Int, pre a b ≤ a.length
  | [], b => by simp [pre]
  | x :: a, [] => by simp [pre]
  | x :: a, y :: b => by
    unfold pre
    split
    · have := pre_le_left a b; simp; omega
    · simp
theorem pre_le_right : ∀ a b : List Int, pre a b ≤ b.length
  | [], b => by simp [pre]
  | x :: a, [] => by simp [pre]
  | x :: a, y :: b => by
    unfold pre
    split
    · have := pre_le_right a b; simp; omega
    · simp
/-- What is alike ahead is part of it. -/
theorem pre_ge : ∀ (a b : List Int) (k : Nat), k ≤ a.length → k ≤ b.length → a.take k = b.take k → k ≤ pre a b
  | a, b, 0, _, _, _ => Nat.zero_le _
  | [], b, k + 1, h, _, _ => by simp at h
  | x :: a, [], k + 1, _, h, _ => by simp at h
  | x :: a, y :: b, k + 1, h1, h2, h => by
    simp only [List.take_succ_cons, List.cons.injEq] at h
    unfold pre
    rw [if_pos h.1]
    have := pre_ge a b k (by simpa using h1) (by simpa using h2) h.2
    omega
theorem pre_ends : ∀ (a b : List Int) (h1 : pre a b < a.length) (h2 : pre a b < b.length), a[pre a b] ≠ b[pre a b]
  | [], b => by simp [pre]
  | x :: a, [] => by simp [pre]
  | x :: a, y :: b => by
    intro h1 h2
    by_cases e : x = y
    · have ep : pre (x :: a) (y :: b) = pre a b + 1 := by rw [pre, if_pos e]
      have := pre_ends a b (by rw [ep] at h1; simpa using h1) (by rw [ep] at h2; simpa using h2)
      simpa [ep] using this
    · have ep : pre (x :: a) (y :: b) = 0 := by rw [pre, if_neg e]
      simpa [ep] using e
theorem pre_at {a b : List Int} {k : Nat} (h1 : k ≤ a.length) (h2 : k ≤ b.length) (h : a.take k = b.take k) (hn : ∀ (g1 : k < a.length) (g2 : k < b.length), a[k] ≠ b[k]) : pre a b = k := by
  have h3 := pre_ge a b k h1 h2 h
  by_cases e : k < pre a b
  · have l1 := pre_le_left a b
    have l2 := pre_le_right a b
    have ht := pre_take a b
    have e1 : (a.take (pre a b))[k]? = (b.take (pre a b))[k]? := by rw [ht]
    rw [List.getElem?_take, List.getElem?_take, if_pos e, if_pos e, List.getElem?_eq_getElem (by omega), List.getElem?_eq_getElem (by omega)] at e1
    exact absurd (Option.some.inj e1) (hn (by omega) (by omega))
  · omega

/-- How long the longest common suffix is. -/
def suf (a b : List Int) : Nat := pre a.reverse b.reverse
theorem suf_le_left (a b : List Int) : suf a b ≤ a.length := by have := pre_le_left a.reverse b.reverse; simpa [suf] using this
theorem suf_le_right (a b : List Int) : suf a b ≤ b.length := by have := pre_le_right a.reverse b.reverse; simpa [suf] using this
theorem suf_at {a b : List Int} {k : Nat} (h1 : k ≤ a.length) (h2 : k ≤ b.length) (h : a.reverse.take k = b.reverse.take k) (hn : ∀ (g1 : k < a.length) (g2 : k < b.length), a[a.length - 1 - k] ≠ b[b.length - 1 - k]) : suf a b = k := by
  apply pre_at (by simpa using h1) (by simpa using h2) h
  intro g1 g2
  simp only [List.length_reverse] at g1 g2
  have := hn g1 g2
  simpa [List.getElem_reverse] using this
theorem suf_drop (a b : List Int) : a.drop (a.length - suf a b) = b.drop (b.length - suf a b) := by
  have h := pre_take a.reverse b.reverse
  rw [List.take_reverse, List.take_reverse] at h
  exact List.reverse_inj.1 h
theorem suf_ge (a b : List Int) (k : Nat) (h1 : k ≤ a.length) (h2 : k ≤ b.length) (h : a.drop (a.length - k) = b.drop (b.length - k)) : k ≤ suf a b := by
  apply pre_ge _ _ _ (by simpa using h1) (by simpa using h2)
  rw [List.take_reverse, List.take_reverse, h]

/-- Of: both ends. -/
def pe (a b : List Int) : Nat := pre a b
def se (a b : List Int) : Nat := suf (a.drop (pre a b)) (b.drop (pre a b))
/-- What stands between. -/
def mid (a : List Int) (p s : Nat) : List Int := (a.drop p).take (a.length - s - p)
theorem ends_left (a b : List Int) : pe a b + se a b ≤ a.length := by
  have h1 := pre_le_left a b
  have h2 := suf_le_left (a.drop (pre a b)) (b.drop (pre a b))
  rw [List.length_drop] at h2
  unfold pe se
  omega
theorem ends_right (a b : List Int) : pe a b + se a b ≤ b.length := by
  have h1 := pre_le_right a b
  have h2 := suf_le_right (a.drop (pre a b)) (b.drop (pre a b))
  rw [List.length_drop] at h2
  unfold pe se
  omega
theorem mid_length (a : List Int) (p s : Nat) (h : p + s ≤ a.length) : (mid a p s).length = a.length - p - s := by
  simp [mid]; omega
theorem cut3 (a : List Int) (p s : Nat) (h : p + s ≤ a.length) : a = a.take p ++ (mid a p s ++ a.drop (a.length - s)) := by
  have e : (a.drop p).take (a.length - s - p) ++ (a.drop p).drop (a.length - s - p) = a.drop p := List.take_append_drop _ _
  rw [List.drop_drop, show p + (a.length - s - p) = a.length - s by omega] at e
  unfold mid
  rw [e, List.take_append_drop]
theorem ends_take (a b : List Int) : a.take (pe a b) = b.take (pe a b) := pre_take a b
theorem ends_drop (a b : List Int) : a.drop (a.length - se a b) = b.drop (b.length - se a b) := by
  have h := suf_drop (a.drop (pre a b)) (b.drop (pre a b))
  have h1 := pre_le_left a b
  have h2 := pre_le_right a b
  have l1 := ends_left a b
  have l2 := ends_right a b
  unfold pe se at l1 l2
  rw [List.drop_drop, List.drop_drop, List.length_drop, List.length_drop] at h
  unfold se
  rw [show a.length - suf (a.drop (pre a b)) (b.drop (pre a b)) = pre a b + (a.length - pre a b - suf (a.drop (pre a b)) (b.drop (pre a b))) by omega,
    show b.length - suf (a.drop (pre a b)) (b.drop (pre a b)) = pre a b + (b.length - pre a b - suf (a.drop (pre a b)) (b.drop (pre a b))) by omega]
  exact h
/-- Both ends are part of the longest that both have in common. -/
theorem lcs_trim (a b : List Int) : lcs a b = pe a b + se a b + lcs (mid a (pe a b) (se a b)) (mid b (pe a b) (se a b)) := by
  have l1 := ends_left a b
  have l2 := ends_right a b
  have h := lcs_front (a.take (pe a b)) (mid a (pe a b) (se a b) ++ a.drop (a.length - se a b)) (mid b (pe a b) (se a b) ++ a.drop (a.length - se a b))
  rw [← cut3 a _ _ l1] at h
  have e : a.take (pe a b) ++ (mid b (pe a b) (se a b) ++ a.drop (a.length - se a b)) = b := by
    rw [ends_take, ends_drop, ← cut3 b _ _ l2]
  rw [e, lcs_back] at h
  simp only [List.length_take, List.length_drop] at h
  omega

/-- Between both ends nothing is alike at an end. -/
theorem mid_first (a b : List Int) (h1 : 0 < (mid a (pe a b) (se a b)).length) (h2 : 0 < (mid b (pe a b) (se a b)).length) : (mid a (pe a b) (se a b))[0] ≠ (mid b (pe a b) (se a b))[0] := by
  have l1 := ends_left a b
  have l2 := ends_right a b
  rw [mid_length _ _ _ l1] at h1
  rw [mid_length _ _ _ l2] at h2
  have := pre_ends a b (by unfold pe at h1; omega) (by unfold pe at h2; omega)
  simpa [mid, pe] using this
theorem mid_last (a b : List Int) (n m : Nat) (hn : (mid a (pe a b) (se a b)).length = n + 1) (hm : (mid b (pe a b) (se a b)).length = m + 1) : (mid a (pe a b) (se a b))[n]'(by omega) ≠ (mid b (pe a b) (se a b))[m]'(by omega) := by
  have l1 := ends_left a b
  have l2 := ends_right a b
  rw [mid_length _ _ _ l1] at hn
  rw [mid_length _ _ _ l2] at hm
  have h := pre_ends (a.drop (pre a b)).reverse (b.drop (pre a b)).reverse (by simp; unfold pe se suf at hn; omega) (by simp; unfold pe se suf at hm; omega)
  simp only [List.getElem_reverse, List.getElem_drop, List.length_drop] at h
  simp only [mid, List.getElem_take, List.getElem_drop]
  have e1 : pe a b + n = pre a b + (a.length - pre a b - 1 - pre (a.drop (pre a b)).reverse (b.drop (pre a b)).reverse) := by unfold pe se suf at *; omega
  have e2 : pe a b + m = pre a b + (b.length - pre a b - 1 - pre (a.drop (pre a b)).reverse (b.drop (pre a b)).reverse) := by unfold pe se suf at *; omega
  simp only [e1, e2]
  exact h

/-- With a beginning put ahead of both, and an end behind both, both ends are at least as long. -/
theorem ends_front (f a b k : List Int) : f.length ≤ pe (f ++ a ++ k) (f ++ b ++ k) := by
  apply pre_ge _ _ _ (by simp) (by simp)
  simp [List.append_assoc]
theorem ends_back (f a b k : List Int) : f.length + k.length ≤ pe (f ++ a ++ k) (f ++ b ++ k) + se (f ++ a ++ k) (f ++ b ++ k) := by
  have h0 := ends_front f a b k
  have hx : (f ++ a ++ k).length = f.length + a.length + k.length := by simp; omega
  have hy : (f ++ b ++ k).length = f.length + b.length + k.length := by simp; omega
  have l1 : pe (f ++ a ++ k) (f ++ b ++ k) ≤ _ := pre_le_left _ _
  have l2 : pe (f ++ a ++ k) (f ++ b ++ k) ≤ _ := pre_le_right _ _
  have tail : ∀ (c : List Int) (r : Nat), r ≤ k.length → (f ++ c ++ k).drop ((f ++ c ++ k).length - r) = k.drop (k.length - r) := by
    intro c r hr
    rw [List.drop_append, List.drop_eq_nil_of_le (by simp; omega), List.nil_append]
    congr 1
    simp
    omega
  generalize hX : f ++ a ++ k = X at *
  generalize hY : f ++ b ++ k = Y at *
  have key : min k.length (min (X.length - pe X Y) (Y.length - pe X Y)) ≤ se X Y := by
    apply suf_ge
    · rw [List.length_drop]; unfold pe; omega
    · rw [List.length_drop]; unfold pe; omega
    · rw [List.drop_drop, List.drop_drop, List.length_drop, List.length_drop]
      generalize hr : min k.length (min (X.length - pe X Y) (Y.length - pe X Y)) = r
      unfold pe at *
      rw [show pre X Y + (X.length - pre X Y - r) = X.length - r by omega, show pre X Y + (Y.length - pre X Y - r) = Y.length - r by omega]
      rw [← hX, ← hY, tail a r (by omega), tail b r (by omega)]
  omega

end Go.Proofs.Ytdkcgehjokdnoaa
