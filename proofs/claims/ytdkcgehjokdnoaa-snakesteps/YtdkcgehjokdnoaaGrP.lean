/-
  The table's rows and columns, plain: what is ahead, what is behind, together; one number more; the distance.
-/
import Derived.Test.YtdkcgehjokdnoaaFa1
import Derived.Test.YtdkcgehjokdnoaaBh1
namespace Go.Proofs.Ytdkcgehjokdnoaa
open Go.RowKit

/-- L of what is ahead of r and c. -/
def px (a b : List Int) (r c : Nat) : Nat := lcs (a.take r) (b.take c)
theorem px_zero_left (a b : List Int) (c : Nat) : px a b 0 c = 0 := by unfold px; rw [List.take_zero, lcs_nil_left]
theorem px_zero_right (a b : List Int) (r : Nat) : px a b r 0 = 0 := by unfold px; rw [List.take_zero, lcs_nil_right]
theorem px_all (a b : List Int) : px a b a.length b.length = lcs a b := by unfold px; rw [List.take_length, List.take_length]
theorem px_le (a b : List Int) (r c : Nat) : px a b r c ≤ a.length := Nat.le_trans (lcs_le_left _ _) (by rw [List.length_take]; omega)
theorem take_snoc {a : List Int} {r : Nat} {x : Int} (h : a[r]? = some x) : a.take (r + 1) = a.take r ++ [x] := by
  obtain ⟨g, e⟩ := List.getElem?_eq_some_iff.1 h
  rw [List.take_succ_eq_append_getElem g, e]
theorem px_same {a b : List Int} {r c : Nat} {x : Int} (h1 : a[r]? = some x) (h2 : b[c]? = some x) : px a b (r + 1) (c + 1) = px a b r c + 1 := by
  unfold px
  rw [take_snoc h1, take_snoc h2, lcs_back]
  rfl
theorem lcs_snoc_other {x y : Int} (h : x ≠ y) (a b : List Int) : lcs (a ++ [x]) (b ++ [y]) = max (lcs a (b ++ [y])) (lcs (a ++ [x]) b) := by
  rw [← lcs_rev (a ++ [x]) (b ++ [y]), ← lcs_rev a (b ++ [y]), ← lcs_rev (a ++ [x]) b]
  simp only [List.reverse_append, List.reverse_cons, List.reverse_nil, List.nil_append, List.singleton_append]
  exact lcs_other h _ _
theorem px_other {a b : List Int} {r c : Nat} {x y : Int} (h1 : a[r]? = some x) (h2 : b[c]? = some y) (hne : x ≠ y) : px a b (r + 1) (c + 1) = max (px a b r (c + 1)) (px a b (r + 1) c) := by
  unfold px
  rw [take_snoc h1, take_snoc h2, lcs_snoc_other hne]

/-- A row from the row below it. -/
theorem fillB_upto {a b : List Int} {i : Nat} {x : Int} {G F : Nat → Int} (hx : a[i]? = some x) (hn : a.length ≤ 1048576) (hG : ∀ c, c ≤ b.length → G c = (lx a b (i + 1) c : Nat)) (hF : F b.length = 0) :
    ∀ k, k ≤ b.length → ∀ c, b.length - k ≤ c → c ≤ b.length → (backs b k).foldl (stepB x G) F c = (lx a b i c : Nat) := by
  intro k
  induction k with
  | zero =>
    intro _ c h1 h2
    obtain rfl : c = b.length := by omega
    rw [lx_end_right a b i _ (Nat.le_refl _)]
    exact hF
  | succ k ih =>
    intro hk c h1 h2
    obtain ⟨j, hj⟩ : ∃ j, j + k + 1 = b.length := ⟨b.length - k - 1, by omega⟩
    have hjl : j < b.length := by omega
    have hy : b[j]? = some b[j] := List.getElem?_eq_getElem hjl
    generalize b[j] = y at *
    rw [backs_succ b hj hy, List.foldl_append, List.foldl_cons, List.foldl_nil]
    have ih' := ih (by omega)
    show (if c = j then (if x = y then IntKind.i64.wrap (G (j + 1) + 1) else (if G j < (backs b k).foldl (stepB x G) F (j + 1) then (backs b k).foldl (stepB x G) F (j + 1) else G j)) else (backs b k).foldl (stepB x G) F c) = _
    by_cases e : c = j
    · subst e
      rw [if_pos rfl]
      by_cases exy : x = y
      · subst exy
        rw [if_pos rfl, hG _ (by omega), lx_same hx hy, IntWalk.i64_in _ (by have := lx_le a b (i + 1) (c + 1); omega)]
        omega
      · rw [if_neg exy, hG c (by omega), ih' (c + 1) (by omega) (by omega), lx_other hx hy exy]
        split <;> omega
    · rw [if_neg e]
      exact ih' c (by omega) h2
theorem fillB_row {a b : List Int} {i : Nat} {x : Int} {G F : Nat → Int} (hx : a[i]? = some x) (hn : a.length ≤ 1048576) (hG : ∀ c, c ≤ b.length → G c = (lx a b (i + 1) c : Nat)) (hF : F b.length = 0) (c : Nat) (hc : c ≤ b.length) : fillB x b G F c = (lx a b i c : Nat) :=
  fillB_upto hx hn hG hF b.length (Nat.le_refl _) c (by omega) hc

/-- A row from the row above it. -/
theorem fillA_upto {a b : List Int} {i : Nat} {x : Int} {G F : Nat → Int} (hx : a[i]? = some x) (hn : a.length ≤ 1048576) (hG : ∀ c, c ≤ b.length → G c = (px a b i c : Nat)) (hF : F 0 = 0) :
    ∀ k, k ≤ b.length → ∀ c, c ≤ k → fillA x b G F k c = (px a b (i + 1) c : Nat) := by
  intro k
  induction k with
  | zero =>
    intro _ c h1
    obtain rfl : c = 0 := by omega
    rw [px_zero_right]
    exact hF
  | succ k ih =>
    intro hk c h1
    have hkl : k < b.length := by omega
    have hy : b[k]? = some b[k] := List.getElem?_eq_getElem hkl
    generalize b[k] = y at *
    have ih' := ih (by omega)
    show (if c = k + 1 then (if x = (b[k]?.getD 0) then IntKind.i64.wrap (G k + 1) else (if G (k + 1) < fillA x b G F k k then fillA x b G F k k else G (k + 1))) else fillA x b G F k c) = _
    rw [hy, Option.getD_some]
    by_cases e : c = k + 1
    · subst e
      rw [if_pos rfl]
      by_cases exy : x = y
      · subst exy
        rw [if_pos rfl, hG _ (by omega), px_same hx hy, IntWalk.i64_in _ (by have := px_le a b i k; omega)]
        omega
      · rw [if_neg exy, hG _ (by omega), ih' k (Nat.le_refl _), px_other hx hy exy]
        split <;> omega
    · rw [if_neg e]
      exact ih' c (by omega)
theorem fillA_row {a b : List Int} {i : Nat} {x : Int} {G F : Nat → Int} (hx : a[i]? = some x) (hn : a.length ≤ 1048576) (hG : ∀ c, c ≤ b.length → G c = (px a b i c : Nat)) (hF : F 0 = 0) (c : Nat) (hc : c ≤ b.length) : fillA x b G F b.length c = (px a b (i + 1) c : Nat) :=
  fillA_upto hx hn hG hF b.length (Nat.le_refl _) c hc

/-- Ahead and behind together are no more, -/
theorem px_lx_le (a b : List Int) (i j : Nat) : px a b i j + lx a b i j ≤ lcs a b := by
  obtain ⟨s, h1, h2, h3⟩ := lcs_has (a.take i) (b.take j)
  obtain ⟨t, k1, k2, k3⟩ := lcs_has (a.drop i) (b.drop j)
  have e1 : (s ++ t).Sublist a := by have := h1.append k1; rwa [List.take_append_drop] at this
  have e2 : (s ++ t).Sublist b := by have := h2.append k2; rwa [List.take_append_drop] at this
  have := lcs_top e1 e2
  rw [List.length_append] at this
  unfold px lx
  omega
/-- and somewhere in each row just as much. -/
theorem px_lx_has (a b : List Int) (i : Nat) : ∃ j, j ≤ b.length ∧ px a b i j + lx a b i j = lcs a b := by
  obtain ⟨s, h1, h2, h3⟩ := lcs_has a b
  rw [← List.take_append_drop i a] at h1
  obtain ⟨s1, s2, rfl, k1, k2⟩ := List.sublist_append_iff.1 h1
  obtain ⟨b1, b2, rfl, l1, l2⟩ := List.append_sublist_iff.1 h2
  refine ⟨b1.length, by simp, ?_⟩
  have e1 : s1.length ≤ px a (b1 ++ b2) i b1.length := by
    unfold px
    refine lcs_top k1 ?_
    simpa using l1
  have e2 : s2.length ≤ lx a (b1 ++ b2) i b1.length := by
    unfold lx
    refine lcs_top k2 ?_
    simpa using l2
  have := px_lx_le a (b1 ++ b2) i b1.length
  rw [List.length_append] at h3
  omega

/-- One number more. -/
theorem lcs_grow_back (x y : List Int) (z : Int) : lcs x y ≤ lcs (x ++ [z]) y ∧ lcs (x ++ [z]) y ≤ lcs x y + 1 ∧ lcs (x ++ [z]) (y ++ [z]) = lcs x y + 1 := by
  refine ⟨lcs_mono (List.sublist_append_left _ _) (List.Sublist.refl _), ?_, by rw [lcs_back]; rfl⟩
  rw [← lcs_rev (x ++ [z]) y, ← lcs_rev x y, List.reverse_append]
  exact lcs_cons_le _ _ _
theorem lcs_grow_front (x y : List Int) (z : Int) : lcs x y ≤ lcs ([z] ++ x) y ∧ lcs ([z] ++ x) y ≤ lcs x y + 1 ∧ lcs ([z] ++ x) ([z] ++ y) = lcs x y + 1 :=
  ⟨lcs_cons_ge _ _ _, lcs_cons_le _ _ _, by rw [lcs_front]; simp only [List.length_singleton]; omega⟩

/-- Of two subsequences of one list what they share. -/
theorem share : ∀ {z s t : List Int}, s.Sublist z → t.Sublist z → ∃ u : List Int, u.Sublist s ∧ u.Sublist t ∧ s.length + t.length ≤ u.length + z.length := by
  intro z
  induction z with
  | nil =>
    intro s t hs ht
    have := List.sublist_nil.1 hs
    have := List.sublist_nil.1 ht
    subst_vars
    exact ⟨[], List.Sublist.refl _, List.Sublist.refl _, by simp⟩
  | cons c z ih =>
    intro s t hs ht
    cases hs with
    | cons _ hs =>
      cases ht with
      | cons _ ht =>
        obtain ⟨u, h1, h2, h3⟩ := ih hs ht
        exact ⟨u, h1, h2, by simp only [List.length_cons]; omega⟩
      | cons_cons _ ht =>
        obtain ⟨u, h1, h2, h3⟩ := ih hs ht
        exact ⟨u, h1, h2.cons _, by simp only [List.length_cons]; omega⟩
    | cons_cons _ hs =>
      cases ht with
      | cons _ ht =>
        obtain ⟨u, h1, h2, h3⟩ := ih hs ht
        exact ⟨u, h1.cons _, h2, by simp only [List.length_cons]; omega⟩
      | cons_cons _ ht =>
        obtain ⟨u, h1, h2, h3⟩ := ih hs ht
        exact ⟨c :: u, h1.cons_cons _, h2.cons_cons _, by simp only [List.length_cons]; omega⟩
theorem lcs_third (x y z : List Int) : lcs x z + lcs z y ≤ lcs x y + z.length := by
  obtain ⟨s, h1, h2, h3⟩ := lcs_has x z
  obtain ⟨t, k1, k2, k3⟩ := lcs_has z y
  obtain ⟨u, l1, l2, l3⟩ := share h2 k1
  have := lcs_top (l1.trans h1) (l2.trans k2)
  omega
/-- How far two lists are from each other. -/
def dist (x y : List Int) : Nat := x.length + y.length - 2 * lcs x y
theorem dist_int (x y : List Int) : ((x.length : Int) + y.length - 2 * (lcs x y : Nat)) = (dist x y : Nat) := by
  have := lcs_le_left x y
  have := lcs_le_right x y
  unfold dist
  omega
theorem dist_comm (x y : List Int) : dist x y = dist y x := by unfold dist; rw [lcs_comm x y]; omega
theorem dist_zero (x y : List Int) : (dist x y = 0) ↔ x = y := by
  have h1 := lcs_le_left x y
  have h2 := lcs_le_right x y
  constructor
  · intro h
    unfold dist at h
    obtain ⟨s, k1, k2, k3⟩ := lcs_has x y
    have e1 := k1.eq_of_length (by omega)
    have e2 := k2.eq_of_length (by omega)
    rw [← e1, ← e2]
  · rintro rfl
    unfold dist
    rw [lcs_self]
    omega
theorem dist_third (x y z : List Int) : dist x y ≤ dist x z + dist z y := by
  have := lcs_third x y z
  have := lcs_le_left x y
  have := lcs_le_right x y
  have := lcs_le_left x z
  have := lcs_le_right x z
  have := lcs_le_left z y
  have := lcs_le_right z y
  unfold dist
  omega
theorem dist_le (x y : List Int) : dist x y ≤ x.length + y.length := by unfold dist; omega

end Go.Proofs.Ytdkcgehjokdnoaa
