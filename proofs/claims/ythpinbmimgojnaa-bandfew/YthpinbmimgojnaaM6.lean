/-
  Words and contracts that the proof leans on.
-/
namespace Go.Proofs.Ythpinbmimgojnaa

/-- L of two lists, as the table says it. -/
def lcs : List Int → List Int → Nat
  | [], _ => 0
  | _ :: _, [] => 0
  | x :: a, y :: b => if x = y then lcs a b + 1 else max (lcs a (y :: b)) (lcs (x :: a) b)
termination_by a b => a.length + b.length

theorem lcs_nil_left (b : List Int) : lcs [] b = 0 := by unfold lcs; rfl
theorem lcs_nil_right (a : List Int) : lcs a [] = 0 := by cases a <;> (unfold lcs; rfl)
theorem lcs_same (x : Int) (a b : List Int) : lcs (x :: a) (x :: b) = lcs a b + 1 := by rw [lcs, if_pos rfl]
theorem lcs_other {x y : Int} (h : x ≠ y) (a b : List Int) : lcs (x :: a) (y :: b) = max (lcs a (y :: b)) (lcs (x :: a) b) := by rw [lcs, if_neg h]

theorem sub_tail {s a : List Int} {x z : Int} (h : (z :: s).Sublist (x :: a)) : s.Sublist a := by
  cases h with
  | cons _ h => exact (List.sublist_cons_self z s).trans h
  | cons_cons _ h => exact h

/-- No common subsequence is longer. -/
theorem lcs_top : ∀ {a b s : List Int}, s.Sublist a → s.Sublist b → s.length ≤ lcs a b := by
  intro a b
  induction a, b using lcs.induct with
  | case1 b =>
    intro s h _
    have := List.sublist_nil.1 h
    subst this
    simp
  | case2 x a =>
    intro s _ h
    have := List.sublist_nil.1 h
    subst this
    simp
  | case3 a y b ih =>
    intro s h1 h2
    rw [lcs_same]
    cases s with
    | nil => simp
    | cons z s =>
      have := ih (sub_tail h1) (sub_tail h2)
      simp only [List.length_cons]
      omega
  | case4 x a y b hne ih1 ih2 =>
    intro s h1 h2
    rw [lcs_other hne]
    cases h1 with
    | cons _ h1 =>
      have := ih1 h1 h2
      omega
    | cons_cons _ h1 =>
      cases h2 with
      | cons _ h2 =>
        have := ih2 (h1.cons_cons _) h2
        omega
      | cons_cons _ _ => exact absurd rfl hne

/-- One as long there is. -/
theorem lcs_has : ∀ (a b : List Int), ∃ s : List Int, s.Sublist a ∧ s.Sublist b ∧ s.length = lcs a b := by
  intro a b
  induction a, b using lcs.induct with
  | case1 b => exact ⟨[], List.Sublist.refl _, List.nil_sublist _, by rw [lcs_nil_left]; rfl⟩
  | case2 x a => exact ⟨[], List.nil_sublist _, List.Sublist.refl _, by rw [lcs_nil_right]; rfl⟩
  | case3 a y b ih =>
    obtain ⟨s, h1, h2, h3⟩ := ih
    exact ⟨y :: s, h1.cons_cons _, h2.cons_cons _, by rw [lcs_same, List.length_cons, h3]⟩
  | case4 x a y b hne ih1 ih2 =>
    rw [lcs_other hne]
    obtain ⟨s, h1, h2, h3⟩ := ih1
    obtain ⟨t, k1, k2, k3⟩ := ih2
    rcases Nat.le_total (lcs a (y :: b)) (lcs (x :: a) b) with h | h
    · exact ⟨t, k1, k2.cons _, by rw [k3]; omega⟩
    · exact ⟨s, h1.cons _, h2, by rw [h3]; omega⟩

theorem lcs_eq {a b : List Int} {n : Nat} (h : ∃ s : List Int, s.Sublist a ∧ s.Sublist b ∧ s.length = n) (hm : ∀ s : List Int, s.Sublist a → s.Sublist b → s.length ≤ n) : lcs a b = n := by
  obtain ⟨s, h1, h2, h3⟩ := h
  obtain ⟨t, k1, k2, k3⟩ := lcs_has a b
  have := lcs_top h1 h2
  have := hm t k1 k2
  omega

theorem lcs_comm (a b : List Int) : lcs a b = lcs b a :=
  lcs_eq (by obtain ⟨s, h1, h2, h3⟩ := lcs_has b a; exact ⟨s, h2, h1, h3⟩) fun _ h1 h2 => lcs_top h2 h1
theorem lcs_mono {a a' b b' : List Int} (h : a.Sublist a') (h' : b.Sublist b') : lcs a b ≤ lcs a' b' := by
  obtain ⟨s, h1, h2, h3⟩ := lcs_has a b
  have := lcs_top (h1.trans h) (h2.trans h')
  omega
theorem lcs_le_left (a b : List Int) : lcs a b ≤ a.length := by
  obtain ⟨s, h1, _, h3⟩ := lcs_has a b
  have := h1.length_le
  omega
theorem lcs_le_right (a b : List Int) : lcs a b ≤ b.length := by rw [lcs_comm]; exact lcs_le_left b a
theorem lcs_rev (a b : List Int) : lcs a.reverse b.reverse = lcs a b :=
  lcs_eq (by obtain ⟨s, h1, h2, h3⟩ := lcs_has a b; exact ⟨s.reverse, h1.reverse, h2.reverse, by rw [List.length_reverse, h3]⟩)
    fun s h1 h2 => by
      have := lcs_top (a := a) (b := b) (s := s.reverse) (by simpa using h1.reverse) (by simpa using h2.reverse)
      simpa using this

/-- What both begin with. -/
theorem lcs_front (p a b : List Int) : lcs (p ++ a) (p ++ b) = p.length + lcs a b := by
  induction p with
  | nil => simp
  | cons x p ih => rw [List.cons_append, List.cons_append, lcs_same, ih, List.length_cons]; omega
/-- What both end with. -/
theorem lcs_back (s a b : List Int) : lcs (a ++ s) (b ++ s) = lcs a b + s.length := by
  rw [← lcs_rev, List.reverse_append, List.reverse_append, lcs_front, lcs_rev, List.length_reverse]
  omega

/-- One number more at the front. -/
theorem lcs_cons_le (x : Int) (a b : List Int) : lcs (x :: a) b ≤ lcs a b + 1 := by
  obtain ⟨s, h1, h2, h3⟩ := lcs_has (x :: a) b
  cases s with
  | nil => simp at h3; omega
  | cons z s =>
    have h4 : s.Sublist b := (List.sublist_cons_self z s).trans h2
    have := lcs_top (sub_tail h1) h4
    simp only [List.length_cons] at h3
    omega
theorem lcs_cons_ge (x : Int) (a b : List Int) : lcs a b ≤ lcs (x :: a) b := lcs_mono (List.sublist_cons_self x a) (List.Sublist.refl _)
theorem lcs_self (a : List Int) : lcs a a = a.length := by
  have := lcs_top (List.Sublist.refl a) (List.Sublist.refl a)
  have := lcs_le_left a a
  omega

/-- The table's rule, by places. -/
theorem lcs_at (a b : List Int) (i j : Nat) (hi : i < a.length) (hj : j < b.length) :
    lcs (a.drop i) (b.drop j) = if a[i] = b[j] then lcs (a.drop (i + 1)) (b.drop (j + 1)) + 1 else max (lcs (a.drop (i + 1)) (b.drop j)) (lcs (a.drop i) (b.drop (j + 1))) := by
  rw [List.drop_eq_getElem_cons hi, List.drop_eq_getElem_cons hj, lcs]
theorem lcs_end_left (a b : List Int) (i j : Nat) (hi : a.length ≤ i) : lcs (a.drop i) (b.drop j) = 0 := by rw [List.drop_eq_nil_of_le hi, lcs_nil_left]
theorem lcs_end_right (a b : List Int) (i j : Nat) (hj : b.length ≤ j) : lcs (a.drop i) (b.drop j) = 0 := by rw [List.drop_eq_nil_of_le hj, lcs_nil_right]

/-- Where something is left there is a pair behind which one less is. -/
theorem lcs_pair (a b : List Int) : ∀ (i j : Nat), 0 < lcs (a.drop i) (b.drop j) → ∃ x y, ∃ (hx : x < a.length) (hy : y < b.length), i ≤ x ∧ j ≤ y ∧ a[x] = b[y] ∧ lcs (a.drop (x + 1)) (b.drop (y + 1)) + 1 = lcs (a.drop i) (b.drop j) := by
  intro i j
  generalize hd : a.length - i + (b.length - j) = d
  induction d using Nat.strongRecOn generalizing i j with
  | ind d ih =>
    intro h
    by_cases hi : i < a.length
    · by_cases hj : j < b.length
      · rw [lcs_at a b i j hi hj] at h ⊢
        by_cases he : a[i] = b[j]
        · rw [if_pos he]
          exact ⟨i, j, hi, hj, Nat.le_refl _, Nat.le_refl _, he, rfl⟩
        · rw [if_neg he] at h ⊢
          rcases Nat.le_total (lcs (a.drop (i + 1)) (b.drop j)) (lcs (a.drop i) (b.drop (j + 1))) with hm | hm
          · rw [Nat.max_eq_right hm] at h ⊢
            obtain ⟨x, y, hx, hy, h1, h2, h3, h4⟩ := ih _ (by omega) i (j + 1) rfl h
            exact ⟨x, y, hx, hy, h1, by omega, h3, h4⟩
          · rw [Nat.max_eq_left hm] at h ⊢
            obtain ⟨x, y, hx, hy, h1, h2, h3, h4⟩ := ih _ (by omega) (i + 1) j rfl h
            exact ⟨x, y, hx, hy, by omega, h2, h3, h4⟩
      · rw [lcs_end_right a b i j (by omega)] at h
        omega
    · rw [lcs_end_left a b i j (by omega)] at h
      omega

end Go.Proofs.Ythpinbmimgojnaa

namespace Go.Proofs.Ythpinbmimgojnaa

/-- How long the longest common prefix is. -/
def pre : List Int → List Int → Nat
  | x :: a, y :: b => if x = y then pre a b + 1 else 0
  | [], _ => 0
  | _ :: _, [] => 0

theorem pre_take : ∀ a b : List Int, a.take (pre a b) = b.take (pre a b)
  | [], b => by simp [pre]
  | x :: a, [] => by simp [pre]
  | x :: a, y :: b => by
    unfold pre
    split
    · subst x; simp [pre_take a b]
    · simp
theorem pre_le_left : ∀ a b : List Int, pre a b ≤ a.length
  | [], b => by simp [pre]
  | x :: a, [] => by simp [pre]
  | x :: a, y :: b => by
    unfold pre
    split
    · have := pre_le_left a b; simp; omega
    · simp
theorem pre_le_right : ∀ a b : List Int, pre a b ≤ b.length
  | [], b => by simp [pre]
  | x :: a, [] => by simp [pre]
  | x :: a, y :: b => by
    unfold pre
    split
    · have := pre_le_right a b; simp; omega
    · simp
/-- What is alike ahead is part of it. -/
theorem pre_ge : ∀ (a b : List Int) (k : Nat), k ≤ a.length → k ≤ b.length → a.take k = b.take k → k ≤ pre a b
  | a, b, 0, _, _, _ => Nat.zero_le _
  | [], b, k + 1, h, _, _ => by simp at h
  | x :: a, [], k + 1, _, h, _ => by simp at h
  | x :: a, y :: b, k + 1, h1, h2, h => by
    simp only [List.take_succ_cons, List.cons.injEq] at h
    unfold pre
    rw [if_pos h.1]
    have := pre_ge a b k (by simpa using h1) (by simpa using h2) h.2
    omega
theorem pre_ends : ∀ (a b : List Int) (h1 : pre a b < a.length) (h2 : pre a b < b.length), a[pre a b] ≠ b[pre a b]
  | [], b => by simp [pre]
  | x :: a, [] => by simp [pre]
  | x :: a, y :: b => by
    intro h1 h2
    by_cases e : x = y
    · have ep : pre (x :: a) (y :: b) = pre a b + 1 := by rw [pre, if_pos e]
      have := pre_ends a b (by rw [ep] at h1; simpa using h1) (by rw [ep] at h2; simpa using h2)
      simpa [ep] using this
    · have ep : pre (x :: a) (y :: b) = 0 := by rw [pre, if_neg e]
      simpa [ep] using e
theorem pre_at {a b : List Int} {k : Nat} (h1 : k ≤ a.length) (h2 : k ≤ b.length) (h : a.take k = b.take k) (hn : ∀ (g1 : k < a.length) (g2 : k < b.length), a[k] ≠ b[k]) : pre a b = k := by
  have h3 := pre_ge a b k h1 h2 h
  by_cases e : k < pre a b
  · have l1 := pre_le_left a b
    have l2 := pre_le_right a b
    have ht := pre_take a b
    have e1 : (a.take (pre a b))[k]? = (b.take (pre a b))[k]? := by rw [ht]
    rw [List.getElem?_take, List.getElem?_take, if_pos e, if_pos e, List.getElem?_eq_getElem (by omega), List.getElem?_eq_getElem (by omega)] at e1
    exact absurd (Option.some.inj e1) (hn (by omega) (by omega))
  · omega

/-- How long the longest common suffix is. -/
def suf (a b : List Int) : Nat := pre a.reverse b.reverse
theorem suf_le_left (a b : List Int) : suf a b ≤ a.length := by have := pre_le_left a.reverse b.reverse; simpa [suf] using this
theorem suf_le_right (a b : List Int) : suf a b ≤ b.length := by have := pre_le_right a.reverse b.reverse; simpa [suf] using this
theorem suf_at {a b : List Int} {k : Nat} (h1 : k ≤ a.length) (h2 : k ≤ b.length) (h : a.reverse.take k = b.reverse.take k) (hn : ∀ (g1 : k < a.length) (g2 : k < b.length), a[a.length - 1 - k] ≠ b[b.length - 1 - k]) : suf a b = k := by
  apply pre_at (by simpa using h1) (by simpa using h2) h
  intro g1 g2
  simp only [List.length_reverse] at g1 g2
  have := hn g1 g2
  simpa [List.getElem_reverse] using this
theorem suf_drop (a b : List Int) : a.drop (a.length - suf a b) = b.drop (b.length - suf a b) := by
  have h := pre_take a.reverse b.reverse
  rw [List.take_reverse, List.take_reverse] at h
  exact List.reverse_inj.1 h
theorem suf_ge (a b : List Int) (k : Nat) (h1 : k ≤ a.length) (h2 : k ≤ b.length) (h : a.drop (a.length - k) = b.drop (b.length - k)) : k ≤ suf a b := by
  apply pre_ge _ _ _ (by simpa using h1) (by simpa using h2)
  rw [List.take_reverse, List.take_reverse, h]

/-- Of: both ends. -/
def pe (a b : List Int) : Nat := pre a b
def se (a b : List Int) : Nat := suf (a.drop (pre a b)) (b.drop (pre a b))
/-- What stands between. -/
def mid (a : List Int) (p s : Nat) : List Int := (a.drop p).take (a.length - s - p)
theorem ends_left (a b : List Int) : pe a b + se a b ≤ a.length := by
  have h1 := pre_le_left a b
  have h2 := suf_le_left (a.drop (pre a b)) (b.drop (pre a b))
  rw [List.length_drop] at h2
  unfold pe se
  omega
theorem ends_right (a b : List Int) : pe a b + se a b ≤ b.length := by
  have h1 := pre_le_right a b
  have h2 := suf_le_right (a.drop (pre a b)) (b.drop (pre a b))
  rw [List.length_drop] at h2
  unfold pe se
  omega
theorem mid_length (a : List Int) (p s : Nat) (h : p + s ≤ a.length) : (mid a p s).length = a.length - p - s := by
  simp [mid]; omega
theorem cut3 (a : List Int) (p s : Nat) (h : p + s ≤ a.length) : a = a.take p ++ (mid a p s ++ a.drop (a.length - s)) := by
  have e : (a.drop p).take (a.length - s - p) ++ (a.drop p).drop (a.length - s - p) = a.drop p := List.take_append_drop _ _
  rw [List.drop_drop, show p + (a.length - s - p) = a.length - s by omega] at e
  unfold mid
  rw [e, List.take_append_drop]
theorem ends_take (a b : List Int) : a.take (pe a b) = b.take (pe a b) := pre_take a b
theorem ends_drop (a b : List Int) : a.drop (a.length - se a b) = b.drop (b.length - se a b) := by
  have h := suf_drop (a.drop (pre a b)) (b.drop (pre a b))
  have h1 := pre_le_left a b
  have h2 := pre_le_right a b
  have l1 := ends_left a b
  have l2 := ends_right a b
  unfold pe se at l1 l2
  rw [List.drop_drop, List.drop_drop, List.length_drop, List.length_drop] at h
  unfold se
  rw [show a.length - suf (a.drop (pre a b)) (b.drop (pre a b)) = pre a b + (a.length - pre a b - suf (a.drop (pre a b)) (b.drop (pre a b))) by omega,
    show b.length - suf (a.drop (pre a b)) (b.drop (pre a b)) = pre a b + (b.length - pre a b - suf (a.drop (pre a b)) (b.drop (pre a b))) by omega]
  exact h
/-- Both ends are part of the longest that both have in common. -/
theorem lcs_trim (a b : List Int) : lcs a b = pe a b + se a b + lcs (mid a (pe a b) (se a b)) (mid b (pe a b) (se a b)) := by
  have l1 := ends_left a b
  have l2 := ends_right a b
  have h := lcs_front (a.take (pe a b)) (mid a (pe a b) (se a b) ++ a.drop (a.length - se a b)) (mid b (pe a b) (se a b) ++ a.drop (a.length - se a b))
  rw [← cut3 a _ _ l1] at h
  have e : a.take (pe a b) ++ (mid b (pe a b) (se a b) ++ a.drop (a.length - se a b)) = b := by
    rw [ends_take, ends_drop, ← cut3 b _ _ l2]
  rw [e, lcs_back] at h
  simp only [List.length_take, List.length_drop] at h
  omega

/-- Between both ends nothing is alike at an end. -/
theorem mid_first (a b : List Int) (h1 : 0 < (mid a (pe a b) (se a b)).length) (h2 : 0 < (mid b (pe a b) (se a b)).length) : (mid a (pe a b) (se a b))[0] ≠ (mid b (pe a b) (se a b))[0] := by
  have l1 := ends_left a b
  have l2 := ends_right a b
  rw [mid_length _ _ _ l1] at h1
  rw [mid_length _ _ _ l2] at h2
  have := pre_ends a b (by unfold pe at h1; omega) (by unfold pe at h2; omega)
  simpa [mid, pe] using this
theorem mid_last (a b : List Int) (n m : Nat) (hn : (mid a (pe a b) (se a b)).length = n + 1) (hm : (mid b (pe a b) (se a b)).length = m + 1) : (mid a (pe a b) (se a b))[n]'(by omega) ≠ (mid b (pe a b) (se a b))[m]'(by omega) := by
  have l1 := ends_left a b
  have l2 := ends_right a b
  rw [mid_length _ _ _ l1] at hn
  rw [mid_length _ _ _ l2] at hm
  have h := pre_ends (a.drop (pre a b)).reverse (b.drop (pre a b)).reverse (by simp; unfold pe se suf at hn; omega) (by simp; unfold pe se suf at hm; omega)
  simp only [List.getElem_reverse, List.getElem_drop, List.length_drop] at h
  simp only [mid, List.getElem_take, List.getElem_drop]
  have e1 : pe a b + n = pre a b + (a.length - pre a b - 1 - pre (a.drop (pre a b)).reverse (b.drop (pre a b)).reverse) := by unfold pe se suf at *; omega
  have e2 : pe a b + m = pre a b + (b.length - pre a b - 1 - pre (a.drop (pre a b)).reverse (b.drop (pre a b)).reverse) := by unfold pe se suf at *; omega
  simp only [e1, e2]
  exact h

/-- With a beginning put ahead of both, and an end behind both, both ends are at least as long. -/
theorem ends_front (f a b k : List Int) : f.length ≤ pe (f ++ a ++ k) (f ++ b ++ k) := by
  apply pre_ge _ _ _ (by simp) (by simp)
  simp [List.append_assoc]
theorem ends_back (f a b k : List Int) : f.length + k.length ≤ pe (f ++ a ++ k) (f ++ b ++ k) + se (f ++ a ++ k) (f ++ b ++ k) := by
  have h0 := ends_front f a b k
  have hx : (f ++ a ++ k).length = f.length + a.length + k.length := by simp; omega
  have hy : (f ++ b ++ k).length = f.length + b.length + k.length := by simp; omega
  have l1 : pe (f ++ a ++ k) (f ++ b ++ k) ≤ _ := pre_le_left _ _
  have l2 : pe (f ++ a ++ k) (f ++ b ++ k) ≤ _ := pre_le_right _ _
  have tail : ∀ (c : List Int) (r : Nat), r ≤ k.length → (f ++ c ++ k).drop ((f ++ c ++ k).length - r) = k.drop (k.length - r) := by
    intro c r hr
    rw [List.drop_append, List.drop_eq_nil_of_le (by simp; omega), List.nil_append]
    congr 1
    simp
    omega
  generalize hX : f ++ a ++ k = X at *
  generalize hY : f ++ b ++ k = Y at *
  have key : min k.length (min (X.length - pe X Y) (Y.length - pe X Y)) ≤ se X Y := by
    apply suf_ge
    · rw [List.length_drop]; unfold pe; omega
    · rw [List.length_drop]; unfold pe; omega
    · rw [List.drop_drop, List.drop_drop, List.length_drop, List.length_drop]
      generalize hr : min k.length (min (X.length - pe X Y) (Y.length - pe X Y)) = r
      unfold pe at *
      rw [show pre X Y + (X.length - pre X Y - r) = X.length - r by omega, show pre X Y + (Y.length - pre X Y - r) = Y.length - r by omega]
      rw [← hX, ← hY, tail a r (by omega), tail b r (by omega)]
  omega

end Go.Proofs.Ythpinbmimgojnaa

namespace Go.Proofs.Ythpinbmimgojnaa

/-- How far it is alike on, from i and j on; back; where one comes to on diagonal k. -/
def dnN (a b : List Int) (i j : Nat) : Nat := pre (a.drop i) (b.drop j)
def bkN (a b : List Int) (i j : Nat) : Nat := suf (a.take i) (b.take j)
def dnI (a b : List Int) (i j : Int) : Int := if 0 ≤ i ∧ i ≤ (a.length : Int) ∧ 0 ≤ j ∧ j ≤ (b.length : Int) then (dnN a b i.toNat j.toNat : Nat) else 0
def bkI (a b : List Int) (i j : Int) : Int := if 0 ≤ i ∧ i ≤ (a.length : Int) ∧ 0 ≤ j ∧ j ≤ (b.length : Int) then (bkN a b i.toNat j.toNat : Nat) else 0
def slI (a b : List Int) (k j : Int) : Int := if 0 ≤ j ∧ j ≤ (b.length : Int) ∧ 0 ≤ j - k ∧ j - k ≤ (a.length : Int) then j + (dnN a b (j - k).toNat j.toNat : Nat) else -1
theorem dnI_in {a b : List Int} {i j : Nat} (hi : i ≤ a.length) (hj : j ≤ b.length) : dnI a b i j = (dnN a b i j : Nat) := by
  unfold dnI
  rw [if_pos (by omega)]
  simp
theorem bkI_in {a b : List Int} {i j : Nat} (hi : i ≤ a.length) (hj : j ≤ b.length) : bkI a b i j = (bkN a b i j : Nat) := by
  unfold bkI
  rw [if_pos (by omega)]
  simp
theorem dnI_out {a b : List Int} {i j : Int} (h : ¬ (0 ≤ i ∧ i ≤ (a.length : Int) ∧ 0 ≤ j ∧ j ≤ (b.length : Int))) : dnI a b i j = 0 := if_neg h
theorem bkI_out {a b : List Int} {i j : Int} (h : ¬ (0 ≤ i ∧ i ≤ (a.length : Int) ∧ 0 ≤ j ∧ j ≤ (b.length : Int))) : bkI a b i j = 0 := if_neg h
theorem slI_in {a b : List Int} {k j : Int} {i q : Nat} (hi : i ≤ a.length) (hj : q ≤ b.length) (e : j = (q : Int)) (ek : j - k = (i : Int)) : slI a b k j = (q + dnN a b i q : Nat) := by
  unfold slI
  rw [if_pos (by omega), ek, e]
  simp
theorem slI_out {a b : List Int} {k j : Int} (h : ¬ (0 ≤ j ∧ j ≤ (b.length : Int) ∧ 0 ≤ j - k ∧ j - k ≤ (a.length : Int))) : slI a b k j = -1 := if_neg h
theorem dnN_le (a b : List Int) (i j : Nat) : dnN a b i j ≤ a.length - i ∧ dnN a b i j ≤ b.length - j := by
  have h1 := pre_le_left (a.drop i) (b.drop j)
  have h2 := pre_le_right (a.drop i) (b.drop j)
  rw [List.length_drop] at h1 h2
  exact ⟨h1, h2⟩
theorem bkN_le (a b : List Int) (i j : Nat) : bkN a b i j ≤ i ∧ bkN a b i j ≤ j := by
  have h1 := suf_le_left (a.take i) (b.take j)
  have h2 := suf_le_right (a.take i) (b.take j)
  rw [List.length_take] at h1 h2
  unfold bkN
  omega
/-- Where a search from the front stands: n places are alike. -/
def DnTo (a b : List Int) (i j n : Nat) : Prop := n ≤ dnN a b i j
theorem dn_zero (a b : List Int) (i j : Nat) : DnTo a b i j 0 := Nat.zero_le _
theorem dn_take (a b : List Int) (i j : Nat) : (a.drop i).take (dnN a b i j) = (b.drop j).take (dnN a b i j) := pre_take _ _
theorem dn_more {a b : List Int} {i j n : Nat} {x : Int} (h : DnTo a b i j n) (h1 : a[i + n]? = some x) (h2 : b[j + n]? = some x) : DnTo a b i j (n + 1) := by
  have l1 := (List.getElem?_eq_some_iff.1 h1).1
  have l2 := (List.getElem?_eq_some_iff.1 h2).1
  refine pre_ge _ _ _ (by rw [List.length_drop]; omega) (by rw [List.length_drop]; omega) ?_
  have e : (a.drop i).take n = (b.drop j).take n := by
    have := congrArg (List.take n) (dn_take a b i j)
    unfold DnTo at h
    rwa [List.take_take, List.take_take, Nat.min_eq_left h] at this
  have e1 : (a.drop i)[n]? = some x := by rw [List.getElem?_drop]; exact h1
  have e2 : (b.drop j)[n]? = some x := by rw [List.getElem?_drop]; exact h2
  obtain ⟨g1, q1⟩ := List.getElem?_eq_some_iff.1 e1
  obtain ⟨g2, q2⟩ := List.getElem?_eq_some_iff.1 e2
  rw [List.take_succ_eq_append_getElem g1, List.take_succ_eq_append_getElem g2, e, q1, q2]
theorem dn_stop {a b : List Int} {i j n : Nat} (h : DnTo a b i j n) (hn : ∀ x y, a[i + n]? = some x → b[j + n]? = some y → x ≠ y) : dnN a b i j = n := by
  unfold DnTo at h
  rcases Nat.eq_or_lt_of_le h with e | e
  · exact e.symm
  · exfalso
    obtain ⟨h1, h2⟩ := dnN_le a b i j
    have e0 := congrArg (fun l => l[n]?) (dn_take a b i j)
    simp only [List.getElem?_take, if_pos e, List.getElem?_drop] at e0
    have g1 : a[i + n]? = some (a[i + n]'(by omega)) := List.getElem?_eq_getElem _
    exact hn _ _ g1 (by rw [← e0]; exact g1) rfl
/-- The place behind: not alike, or an end. -/
theorem dn_end (a b : List Int) (i j : Nat) (hi : i ≤ a.length) (hj : j ≤ b.length) : i + dnN a b i j = a.length ∨ j + dnN a b i j = b.length ∨ ∃ x y, a[i + dnN a b i j]? = some x ∧ b[j + dnN a b i j]? = some y ∧ x ≠ y := by
  obtain ⟨h1, h2⟩ := dnN_le a b i j
  by_cases g1 : i + dnN a b i j = a.length
  · exact .inl g1
  by_cases g2 : j + dnN a b i j = b.length
  · exact .inr (.inl g2)
  refine .inr (.inr ⟨a[i + dnN a b i j]'(by omega), b[j + dnN a b i j]'(by omega), List.getElem?_eq_getElem _, List.getElem?_eq_getElem _, ?_⟩)
  have := pre_ends (a.drop i) (b.drop j) (by show dnN a b i j < _; rw [List.length_drop]; omega) (by show dnN a b i j < _; rw [List.length_drop]; omega)
  rw [List.getElem_drop, List.getElem_drop] at this
  exact this
theorem dn_step (a b : List Int) (i j : Nat) (h : 0 < dnN a b i j) : dnN a b (i + 1) (j + 1) = dnN a b i j - 1 := by
  obtain ⟨h1, h2⟩ := dnN_le a b i j
  have ea : a.drop i = a[i]'(by omega) :: a.drop (i + 1) := List.drop_eq_getElem_cons (by omega)
  have eb : b.drop j = b[j]'(by omega) :: b.drop (j + 1) := List.drop_eq_getElem_cons (by omega)
  unfold dnN at h ⊢
  rw [ea, eb, pre] at h ⊢
  split at h
  · rename_i e
    rw [if_pos e, Nat.add_sub_cancel]
  · omega
theorem dn_done (a b : List Int) (i j : Nat) (hi : i ≤ a.length) (hj : j ≤ b.length) : dnN a b (i + dnN a b i j) (j + dnN a b i j) = 0 := by
  refine dn_stop (dn_zero _ _ _ _) fun x y h1 h2 => ?_
  rw [Nat.add_zero] at h1 h2
  rcases dn_end a b i j hi hj with e | e | ⟨u, v, e1, e2, hne⟩
  · have := (List.getElem?_eq_some_iff.1 h1).1
    omega
  · have := (List.getElem?_eq_some_iff.1 h2).1
    omega
  · rw [e1] at h1
    rw [e2] at h2
    cases h1
    cases h2
    exact hne
theorem bk_back (a b : List Int) (i j : Nat) (hi : i ≤ a.length) (hj : j ≤ b.length) : dnN a b i j ≤ bkN a b (i + dnN a b i j) (j + dnN a b i j) := by
  obtain ⟨h1, h2⟩ := dnN_le a b i j
  have ht := dn_take a b i j
  generalize dnN a b i j = n at *
  refine suf_ge _ _ _ (by rw [List.length_take]; omega) (by rw [List.length_take]; omega) ?_
  rw [List.length_take, List.length_take, show min (i + n) a.length - n = i by omega, show min (j + n) b.length - n = j by omega, List.drop_take, List.drop_take, show i + n - i = n by omega, show j + n - j = n by omega]
  exact ht
theorem pre_comm : ∀ a b : List Int, pre a b = pre b a
  | [], [] => rfl
  | [], _ :: _ => rfl
  | _ :: _, [] => rfl
  | x :: a, y :: b => by
    rw [pre, pre, pre_comm a b]
    by_cases e : x = y
    · rw [if_pos e, if_pos e.symm]
    · rw [if_neg e, if_neg (fun e' => e e'.symm)]
theorem dn_comm (a b : List Int) (i j : Nat) : dnN a b i j = dnN b a j i := pre_comm _ _
theorem bk_comm (a b : List Int) (i j : Nat) : bkN a b i j = bkN b a j i := pre_comm _ _
/-- Back is on, in both lists turned round. -/
theorem bk_turn (a b : List Int) (i j : Nat) (hi : i ≤ a.length) (hj : j ≤ b.length) : bkN a b i j = dnN a.reverse b.reverse (a.length - i) (b.length - j) := by
  unfold bkN dnN suf
  rw [List.drop_reverse, List.drop_reverse, show a.length - (a.length - i) = i by omega, show b.length - (b.length - j) = j by omega]
/-- A search back. -/
def BkTo (a b : List Int) (i j n : Nat) : Prop := n ≤ bkN a b i j
theorem bk_zero (a b : List Int) (i j : Nat) : BkTo a b i j 0 := Nat.zero_le _
theorem rev_get {l : List Int} {i n : Nat} (hi : i ≤ l.length) (hn : n < i) : l.reverse[l.length - i + n]? = l[i - n - 1]? := by
  rw [List.getElem?_reverse (by omega)]
  congr 1
  omega
theorem bk_more {a b : List Int} {i j n : Nat} {x : Int} (hi : i ≤ a.length) (hj : j ≤ b.length) (h : BkTo a b i j n) (hni : n < i) (hnj : n < j) (h1 : a[i - n - 1]? = some x) (h2 : b[j - n - 1]? = some x) : BkTo a b i j (n + 1) := by
  unfold BkTo at h ⊢
  rw [bk_turn a b i j hi hj] at h ⊢
  exact dn_more h (by rw [rev_get hi hni]; exact h1) (by rw [rev_get hj hnj]; exact h2)
theorem bk_stop {a b : List Int} {i j n : Nat} (hi : i ≤ a.length) (hj : j ≤ b.length) (h : BkTo a b i j n) (hn : n < i → n < j → ∀ x y, a[i - n - 1]? = some x → b[j - n - 1]? = some y → x ≠ y) : bkN a b i j = n := by
  unfold BkTo at h
  rw [bk_turn a b i j hi hj] at h ⊢
  refine dn_stop h fun x y h1 h2 => ?_
  have l1 := (List.getElem?_eq_some_iff.1 h1).1
  have l2 := (List.getElem?_eq_some_iff.1 h2).1
  rw [List.length_reverse] at l1 l2
  rw [rev_get hi (by omega)] at h1
  rw [rev_get hj (by omega)] at h2
  exact hn (by omega) (by omega) x y h1 h2

end Go.Proofs.Ythpinbmimgojnaa
