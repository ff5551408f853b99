/-
  Rows, plain: the next row, both ends' rows, where both rows together are most.
-/
import Derived.Test.YtnocjkpjihpphaaGrP
namespace Go.Proofs.Ytnocjkpjihpphaa
open Go.RowKit

/-- A row that is told by its places, as a list. -/
def rowL (m : Nat) (F : Nat → Int) : List Int := (List.range (m + 1)).map F
theorem rowL_length (m : Nat) (F : Nat → Int) : (rowL m F).length = m + 1 := by simp [rowL]
theorem rowL_get {m : Nat} {F : Nat → Int} {c : Nat} (h : c ≤ m) : (rowL m F)[c]? = some (F c) := by
  unfold rowL
  rw [List.getElem?_map, List.getElem?_range (by omega)]
  rfl
theorem rowL_congr {m : Nat} {F G : Nat → Int} (h : ∀ c, c ≤ m → F c = G c) : rowL m F = rowL m G := by
  unfold rowL
  refine List.map_congr_left fun c hc => h c ?_
  rw [List.mem_range] at hc
  omega
theorem rowL_ext {l : List Int} {m : Nat} {F : Nat → Int} (hl : l.length = m + 1) (h : ∀ c, c ≤ m → l[c]? = some (F c)) : l = rowL m F := by
  refine List.ext_getElem? fun c => ?_
  rcases Nat.lt_or_ge c (m + 1) with g | g
  · rw [h c (by omega), rowL_get (by omega)]
  · rw [List.getElem?_eq_none (by omega), List.getElem?_eq_none (by rw [rowL_length]; omega)]
theorem rowL_succ (m : Nat) (F : Nat → Int) : rowL (m + 1) F = rowL m F ++ [F (m + 1)] := by
  unfold rowL
  rw [List.range_succ, List.map_append]
  rfl
theorem rowL_zero (F : Nat → Int) : rowL 0 F = [F 0] := rfl

/-- Number c of a list. -/
def nth (l : List Int) (c : Nat) : Int := l[c]?.getD 0
theorem nth_of {l : List Int} {c : Nat} {x : Int} (h : l[c]? = some x) : nth l c = x := by unfold nth; rw [h]; rfl
theorem nth_rowL {m : Nat} {F : Nat → Int} {c : Nat} (h : c ≤ m) : nth (rowL m F) c = F c := nth_of (rowL_get h)

/-- Number c of the next row. -/
def nx (x : Int) (b : List Int) (G : Nat → Int) : Nat → Int
  | 0 => G 0
  | j + 1 => if x = nth b j then IntKind.i64.wrap (G j + 1) else (if G (j + 1) < nx x b G j then nx x b G j else G (j + 1))
def nextL (row : List Int) (x : Int) (b : List Int) : List Int := if row.length = b.length + 1 then rowL b.length (nx x b (nth row)) else []
theorem nextL_fits {row : List Int} {x : Int} {b : List Int} (h : row.length = b.length + 1) : nextL row x b = rowL b.length (nx x b (nth row)) := if_pos h
theorem nextL_not {row : List Int} {x : Int} {b : List Int} (h : row.length ≠ b.length + 1) : nextL row x b = [] := if_neg h
theorem fillA_nx {x : Int} {b : List Int} {G F : Nat → Int} (h0 : F 0 = G 0) : ∀ k c, c ≤ k → fillA x b G F k c = nx x b G c := by
  intro k
  induction k with
  | zero =>
    intro c hc
    obtain rfl : c = 0 := by omega
    exact h0
  | succ k ih =>
    intro c hc
    show (if c = k + 1 then (if x = (b[k]?.getD 0) then IntKind.i64.wrap (G k + 1) else (if G (k + 1) < fillA x b G F k k then fillA x b G F k k else G (k + 1))) else fillA x b G F k c) = _
    by_cases e : c = k + 1
    · subst e
      rw [if_pos rfl, ih k (Nat.le_refl _)]
      rfl
    · rw [if_neg e]
      exact ih c (by omega)

/-- The rows of all of a, from the front, from the back. -/
def frontL (a b : List Int) : List Int := rowL b.length fun c => (px a b a.length c : Nat)
def backL (a b : List Int) : List Int := rowL b.length fun c => (lx a b 0 c : Nat)
theorem frontL_length (a b : List Int) : (frontL a b).length = b.length + 1 := rowL_length _ _
theorem backL_length (a b : List Int) : (backL a b).length = b.length + 1 := rowL_length _ _
theorem frontL_nil (b : List Int) : frontL [] b = rowL b.length fun _ => 0 := rowL_congr fun c _ => by simp [px, lcs_nil_left]
theorem nth_front {a b : List Int} {c : Nat} (h : c ≤ b.length) : nth (frontL a b) c = (lcs a (b.take c) : Nat) := by
  unfold frontL
  rw [nth_rowL h]
  unfold px
  rw [List.take_length]
theorem nth_back {a b : List Int} {c : Nat} (h : c ≤ b.length) : nth (backL a b) c = (lcs a (b.drop c) : Nat) := by
  unfold backL
  rw [nth_rowL h]
  unfold lx
  rw [List.drop_zero]

/-- One number more. -/
theorem front_next {a b : List Int} {i : Nat} {x : Int} (hx : a[i]? = some x) (hn : a.length ≤ 1048576) : nextL (frontL (a.take i) b) x b = frontL (a.take (i + 1)) b := by
  rw [nextL_fits (frontL_length _ _)]
  refine rowL_congr fun c hc => ?_
  have hi : i < a.length := (List.getElem?_eq_some_iff.1 hx).1
  have hp : ∀ r, r ≤ a.length → ∀ c, c ≤ b.length → (px (a.take r) b (a.take r).length c : Nat) = px a b r c := fun r hr c _ => by
    unfold px
    rw [List.take_length]
  have hG : ∀ c, c ≤ b.length → nth (frontL (a.take i) b) c = (px a b i c : Nat) := fun c hc => by
    unfold frontL
    rw [nth_rowL hc, hp i (by omega) c hc]
  rw [← fillA_nx (F := nth (frontL (a.take i) b)) rfl b.length c hc, fillA_row hx hn hG (by rw [hG 0 (Nat.zero_le _), px_zero_right]; rfl) c hc, hp (i + 1) (by omega) c hc]
theorem front_back (a b : List Int) : (frontL a.reverse b.reverse).reverse = backL a b := by
  refine rowL_ext (by rw [List.length_reverse, frontL_length, List.length_reverse]) fun c hc => ?_
  rw [List.getElem?_reverse (by rw [frontL_length, List.length_reverse]; omega), frontL_length, List.length_reverse]
  unfold frontL
  rw [rowL_get (by rw [List.length_reverse]; omega)]
  unfold px lx
  rw [List.take_length, List.drop_zero, show b.length + 1 - 1 - c = b.length - c by omega, List.take_reverse, show b.length - (b.length - c) = c by omega, lcs_rev]

/-- The first place where both together are most, and how much that is, when k are seen. -/
def sumAt (f g : List Int) (c : Nat) : Int := IntKind.i64.wrap (nth f c + nth g c)
def spR (f g : List Int) : Nat → Nat × Int
  | 0 => (0, sumAt f g 0)
  | k + 1 => if (spR f g k).2 < sumAt f g k then (k, sumAt f g k) else spR f g k
theorem spR_is (f g : List Int) : ∀ k, (spR f g k).2 = sumAt f g (spR f g k).1 ∧ ((spR f g k).1 < k ∨ (spR f g k).1 = 0) ∧ (∀ c, c < k → sumAt f g c ≤ (spR f g k).2) ∧ ∀ c, c < (spR f g k).1 → sumAt f g c < (spR f g k).2 := by
  intro k
  induction k with
  | zero => exact ⟨rfl, .inr rfl, fun c h => by omega, fun c h => by simp [spR] at h⟩
  | succ k ih =>
    obtain ⟨h1, h2, h3, h4⟩ := ih
    show ((if (spR f g k).2 < sumAt f g k then (k, sumAt f g k) else spR f g k).2 = sumAt f g (if (spR f g k).2 < sumAt f g k then (k, sumAt f g k) else spR f g k).1) ∧ ((if (spR f g k).2 < sumAt f g k then (k, sumAt f g k) else spR f g k).1 < k + 1 ∨ (if (spR f g k).2 < sumAt f g k then (k, sumAt f g k) else spR f g k).1 = 0) ∧ (∀ c, c < k + 1 → sumAt f g c ≤ (if (spR f g k).2 < sumAt f g k then (k, sumAt f g k) else spR f g k).2) ∧ ∀ c, c < (if (spR f g k).2 < sumAt f g k then (k, sumAt f g k) else spR f g k).1 → sumAt f g c < (if (spR f g k).2 < sumAt f g k then (k, sumAt f g k) else spR f g k).2
    by_cases e : (spR f g k).2 < sumAt f g k
    · rw [if_pos e]
      refine ⟨rfl, .inl (by show k < k + 1; omega), fun c hc => ?_, fun c hc => ?_⟩
      · show sumAt f g c ≤ sumAt f g k
        by_cases e' : c = k
        · subst e'; omega
        · have := h3 c (by omega); omega
      · have : c < k := hc
        have := h3 c this
        show sumAt f g c < sumAt f g k
        omega
    · rw [if_neg e]
      refine ⟨h1, h2.imp (fun h => by omega) id, fun c hc => ?_, h4⟩
      by_cases e' : c = k
      · subst e'; omega
      · exact h3 c (by omega)
/-- What Split tells. -/
def splitL (f g : List Int) : Nat × Int := if f.length = 0 ∨ f.length ≠ g.length then (0, 0) else spR f g f.length
theorem split_meet {a b : List Int} {i : Nat} (hn : a.length ≤ 1048576) : let s := splitL (frontL (a.take i) b) (backL (a.drop i) b)
    s.1 ≤ b.length ∧ s.2 = (lcs a b : Nat) ∧ lcs (a.take i) (b.take s.1) + lcs (a.drop i) (b.drop s.1) = lcs a b := by
  intro s
  have hs : s = spR (frontL (a.take i) b) (backL (a.drop i) b) (b.length + 1) := by
    show splitL _ _ = _
    unfold splitL
    rw [if_neg (by rw [frontL_length, backL_length]; omega), frontL_length]
  have hS : ∀ c, c ≤ b.length → sumAt (frontL (a.take i) b) (backL (a.drop i) b) c = ((px a b i c + lx a b i c : Nat) : Int) := fun c hc => by
    unfold sumAt
    rw [nth_front hc, nth_back hc]
    have := px_lx_le a b i c
    have := lcs_le_left a b
    unfold px lx at *
    rw [IntWalk.i64_in _ (by omega)]
    omega
  obtain ⟨h1, h2, h3, _⟩ := spR_is (frontL (a.take i) b) (backL (a.drop i) b) (b.length + 1)
  rw [← hs] at h1 h2 h3
  have h0 : s.1 ≤ b.length := by omega
  rw [hS _ h0] at h1
  obtain ⟨j, hj, e⟩ := px_lx_has a b i
  have h4 := h3 j (by omega)
  rw [hS j hj, e, h1] at h4
  have h5 := px_lx_le a b i s.1
  have h6 : px a b i s.1 + lx a b i s.1 = lcs a b := by omega
  exact ⟨h0, by rw [h1, h6], h6⟩

end Go.Proofs.Ytnocjkpjihpphaa
