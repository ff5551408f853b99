/-
  Words and contracts that the proof leans on.
-/
namespace Go.Proofs.Ytejpbjglfjhjkaa

/-- L of two lists, as the table says it. -/
def lcs : List Int → List Int → Nat
  | [], _ => 0
  | _ :: _, [] => 0
  | x :: a, y :: b => if x = y then lcs a b + 1 else max (lcs a (y :: b)) (lcs (x :: a) b)
termination_by a b => a.length + b.length

theorem lcs_nil_left (b : List Int) : lcs [] b = 0 := by unfold lcs; rfl
theorem lcs_nil_right (a : List Int) : lcs a [] = 0 := by cases a <;> (unfold lcs; rfl)
theorem lcs_same (x : Int) (a b : List Int) : lcs (x :: a) (x :: b) = lcs a b + 1 := by rw [lcs, if_pos rfl]
theorem lcs_other {x y : Int} (h : x ≠ y) (a b : List Int) : lcs (x :: a) (y :: b) = max (lcs a (y :: b)) (lcs (x :: a) b) := by rw [lcs, if_neg h]

theorem sub_tail {s a : List Int} {x z : Int} (h : (z :: s).Sublist (x :: a)) : s.Sublist a := by
  cases h with
  | cons _ h => exact (List.sublist_cons_self z s).trans h
  | cons_cons _ h => exact h

/-- No common subsequence is longer. -/
theorem lcs_top : ∀ {a b s : List Int}, s.Sublist a → s.Sublist b → s.length ≤ lcs a b := by
  intro a b
  induction a, b using lcs.induct with
  | case1 b =>
    intro s h _
    have := List.sublist_nil.1 h
    subst this
    simp
  | case2 x a =>
    intro s _ h
    have := List.sublist_nil.1 h
    subst this
    simp
  | case3 a y b ih =>
    intro s h1 h2
    rw [lcs_same]
    cases s with
    | nil => simp
    | cons z s =>
      have := ih (sub_tail h1) (sub_tail h2)
      simp only [List.length_cons]
      omega
  | case4 x a y b hne ih1 ih2 =>
    intro s h1 h2
    rw [lcs_other hne]
    cases h1 with
    | cons _ h1 =>
      have := ih1 h1 h2
      omega
    | cons_cons _ h1 =>
      cases h2 with
      | cons _ h2 =>
        have := ih2 (h1.cons_cons _) h2
        omega
      | cons_cons _ _ => exact absurd rfl hne

/-- One as long there is. -/
theorem lcs_has : ∀ (a b : List Int), ∃ s : List Int, s.Sublist a ∧ s.Sublist b ∧ s.length = lcs a b := by
  intro a b
  induction a, b using lcs.induct with
  | case1 b => exact ⟨[], List.Sublist.refl _, List.nil_sublist _, by rw [lcs_nil_left]; rfl⟩
  | case2 x a => exact ⟨[], List.nil_sublist _, List.Sublist.refl _, by rw [lcs_nil_right]; rfl⟩
  | case3 a y b ih =>
    obtain ⟨s, h1, h2, h3⟩ := ih
    exact ⟨y :: s, h1.cons_cons _, h2.cons_cons _, by rw [lcs_same, List.length_cons, h3]⟩
  | case4 x a y b hne ih1 ih2 =>
    rw [lcs_other hne]
    obtain ⟨s, h1, h2, h3⟩ := ih1
    obtain ⟨t, k1, k2, k3⟩ := ih2
    rcases Nat.le_total (lcs a (y :: b)) (lcs (x :: a) b) with h | h
    · exact ⟨t, k1, k2.cons _, by rw [k3]; omega⟩
    · exact ⟨s, h1.cons _, h2, by rw [h3]; omega⟩

theorem lcs_eq {a b : List Int} {n : Nat} (h : ∃ s : List Int, s.Sublist a ∧ s.Sublist b ∧ s.length = n) (hm : ∀ s : List Int, s.Sublist a → s.Sublist b → s.length ≤ n) : lcs a b = n := by
  obtain ⟨s, h1, h2, h3⟩ := h
  obtain ⟨t, k1, k2, k3⟩ := lcs_has a b
  have := lcs_top h1 h2
  have := hm t k1 k2
  omega

theorem lcs_comm (a b : List Int) : lcs a b = lcs b a :=
  lcs_eq (by obtain ⟨s, h1, h2, h3⟩ := lcs_has b a; exact ⟨s, h2, h1, h3⟩) fun _ h1 h2 => lcs_top h2 h1
theorem lcs_mono {a a' b b' : List Int} (h : a.Sublist a') (h' : b.Sublist b') : lcs a b ≤ lcs a' b' := by
  obtain ⟨s, h1, h2, h3⟩ := lcs_has a b
  have := lcs_top (h1.trans h) (h2.trans h')
  omega
theorem lcs_le_left (a b : List Int) : lcs a b ≤ a.length := by
  obtain ⟨s, h1, _, h3⟩ := lcs_has a b
  have := h1.length_le
  omega
theorem lcs_le_right (a b : List Int) : lcs a b ≤ b.length := by rw [lcs_comm]; exact lcs_le_left b a
theorem lcs_rev (a b : List Int) : lcs a.reverse b.reverse = lcs a b :=
  lcs_eq (by obtain ⟨s, h1, h2, h3⟩ := lcs_has a b; exact ⟨s.reverse, h1.reverse, h2.reverse, by rw [List.length_reverse, h3]⟩)
    fun s h1 h2 => by
      have := lcs_top (a := a) (b := b) (s := s.reverse) (by simpa using h1.reverse) (by simpa using h2.reverse)
      simpa using this

/-- One number more at the front. -/
theorem lcs_cons_le (x : Int) (a b : List Int) : lcs (x :: a) b ≤ lcs a b + 1 := by
  obtain ⟨s, h1, h2, h3⟩ := lcs_has (x :: a) b
  cases s with
  | nil => simp at h3; omega
  | cons z s =>
    have h4 : s.Sublist b := (List.sublist_cons_self z s).trans h2
    have := lcs_top (sub_tail h1) h4
    simp only [List.length_cons] at h3
    omega
/-- The table's rule, by places. -/
theorem lcs_at (a b : List Int) (i j : Nat) (hi : i < a.length) (hj : j < b.length) :
    lcs (a.drop i) (b.drop j) = if a[i] = b[j] then lcs (a.drop (i + 1)) (b.drop (j + 1)) + 1 else max (lcs (a.drop (i + 1)) (b.drop j)) (lcs (a.drop i) (b.drop (j + 1))) := by
  rw [List.drop_eq_getElem_cons hi, List.drop_eq_getElem_cons hj, lcs]
theorem lcs_end_left (a b : List Int) (i j : Nat) (hi : a.length ≤ i) : lcs (a.drop i) (b.drop j) = 0 := by rw [List.drop_eq_nil_of_le hi, lcs_nil_left]
theorem lcs_end_right (a b : List Int) (i j : Nat) (hj : b.length ≤ j) : lcs (a.drop i) (b.drop j) = 0 := by rw [List.drop_eq_nil_of_le hj, lcs_nil_right]

/-- Where something is left there is a pair behind which one less is. -/
theorem lcs_pair (a b : List Int) : ∀ (i j : Nat), 0 < lcs (a.drop i) (b.drop j) → ∃ x y, ∃ (hx : x < a.length) (hy : y < b.length), i ≤ x ∧ j ≤ y ∧ a[x] = b[y] ∧ lcs (a.drop (x + 1)) (b.drop (y + 1)) + 1 = lcs (a.drop i) (b.drop j) := by
  intro i j
  generalize hd : a.length - i + (b.length - j) = d
  induction d using Nat.strongRecOn generalizing i j with
  | ind d ih =>
    intro h
    by_cases hi : i < a.length
    · by_cases hj : j < b.length
      · rw [lcs_at a b i j hi hj] at h ⊢
        by_cases he : a[i] = b[j]
        · rw [if_pos he]
          exact ⟨i, j, hi, hj, Nat.le_refl _, Nat.le_refl _, he, rfl⟩
        · rw [if_neg he] at h ⊢
          rcases Nat.le_total (lcs (a.drop (i + 1)) (b.drop j)) (lcs (a.drop i) (b.drop (j + 1))) with hm | hm
          · rw [Nat.max_eq_right hm] at h ⊢
            obtain ⟨x, y, hx, hy, h1, h2, h3, h4⟩ := ih _ (by omega) i (j + 1) rfl h
            exact ⟨x, y, hx, hy, h1, by omega, h3, h4⟩
          · rw [Nat.max_eq_left hm] at h ⊢
            obtain ⟨x, y, hx, hy, h1, h2, h3, h4⟩ := ih _ (by omega) (i + 1) j rfl h
            exact ⟨x, y, hx, hy, by omega, h2, h3, h4⟩
      · rw [lcs_end_right a b i j (by omega)] at h
        omega
    · rw [lcs_end_left a b i j (by omega)] at h
      omega

end Go.Proofs.Ytejpbjglfjhjkaa
