/-
  Words and contracts that the proof leans on.
-/
import Derived.Test.YthpinbmimgojnaaM10
import Derived.Test.YthpinbmimgojnaaM11
import Derived.Test.YthpinbmimgojnaaM1
import Derived.Test.YthpinbmimgojnaaM6
namespace Go.Proofs.Ythpinbmimgojnaa
open Go.RowKit

/-- L of what is ahead of r and c. -/
def px (a b : List Int) (r c : Nat) : Nat := lcs (a.take r) (b.take c)
theorem px_zero_left (a b : List Int) (c : Nat) : px a b 0 c = 0 := by unfold px; rw [List.take_zero, lcs_nil_left]
theorem px_zero_right (a b : List Int) (r : Nat) : px a b r 0 = 0 := by unfold px; rw [List.take_zero, lcs_nil_right]
theorem px_all (a b : List Int) : px a b a.length b.length = lcs a b := by unfold px; rw [List.take_length, List.take_length]
theorem px_le (a b : List Int) (r c : Nat) : px a b r c ≤ a.length := Nat.le_trans (lcs_le_left _ _) (by rw [List.length_take]; omega)
theorem take_snoc {a : List Int} {r : Nat} {x : Int} (h : a[r]? = some x) : a.take (r + 1) = a.take r ++ [x] := by
  obtain ⟨g, e⟩ := List.getElem?_eq_some_iff.1 h
  rw [List.take_succ_eq_append_getElem g, e]
theorem px_same {a b : List Int} {r c : Nat} {x : Int} (h1 : a[r]? = some x) (h2 : b[c]? = some x) : px a b (r + 1) (c + 1) = px a b r c + 1 := by
  unfold px
  rw [take_snoc h1, take_snoc h2, lcs_back]
  rfl
theorem lcs_snoc_other {x y : Int} (h : x ≠ y) (a b : List Int) : lcs (a ++ [x]) (b ++ [y]) = max (lcs a (b ++ [y])) (lcs (a ++ [x]) b) := by
  rw [← lcs_rev (a ++ [x]) (b ++ [y]), ← lcs_rev a (b ++ [y]), ← lcs_rev (a ++ [x]) b]
  simp only [List.reverse_append, List.reverse_cons, List.reverse_nil, List.nil_append, List.singleton_append]
  exact lcs_other h _ _
theorem px_other {a b : List Int} {r c : Nat} {x y : Int} (h1 : a[r]? = some x) (h2 : b[c]? = some y) (hne : x ≠ y) : px a b (r + 1) (c + 1) = max (px a b r (c + 1)) (px a b (r + 1) c) := by
  unfold px
  rw [take_snoc h1, take_snoc h2, lcs_snoc_other hne]

/-- A row from the row below it. -/
theorem fillB_upto {a b : List Int} {i : Nat} {x : Int} {G F : Nat → Int} (hx : a[i]? = some x) (hn : a.length ≤ 1048576) (hG : ∀ c, c ≤ b.length → G c = (lx a b (i + 1) c : Nat)) (hF : F b.length = 0) :
    ∀ k, k ≤ b.length → ∀ c, b.length - k ≤ c → c ≤ b.length → (backs b k).foldl (stepB x G) F c = (lx a b i c : Nat) := by
  intro k
  induction k with
  | zero =>
    intro _ c h1 h2
    obtain rfl : c = b.length := by omega
    rw [lx_end_right a b i _ (Nat.le_refl _)]
    exact hF
  | succ k ih =>
    intro hk c h1 h2
    obtain ⟨j, hj⟩ : ∃ j, j + k + 1 = b.length := ⟨b.length - k - 1, by omega⟩
    have hjl : j < b.length := by omega
    have hy : b[j]? = some b[j] := List.getElem?_eq_getElem hjl
    generalize b[j] = y at *
    rw [backs_succ b hj hy, List.foldl_append, List.foldl_cons, List.foldl_nil]
    have ih' := ih (by omega)
    show (if c = j then (if x = y then IntKind.i64.wrap (G (j + 1) + 1) else (if G j < (backs b k).foldl (stepB x G) F (j + 1) then (backs b k).foldl (stepB x G) F (j + 1) else G j)) else (backs b k).foldl (stepB x G) F c) = _
    by_cases e : c = j
    · subst e
      rw [if_pos rfl]
      by_cases exy : x = y
      · subst exy
        rw [if_pos rfl, hG _ (by omega), lx_same hx hy, IntWalk.i64_in _ (by have := lx_le a b (i + 1) (c + 1); omega)]
        omega
      · rw [if_neg exy, hG c (by omega), ih' (c + 1) (by omega) (by omega), lx_other hx hy exy]
        split <;> omega
    · rw [if_neg e]
      exact ih' c (by omega) h2
theorem fillB_row {a b : List Int} {i : Nat} {x : Int} {G F : Nat → Int} (hx : a[i]? = some x) (hn : a.length ≤ 1048576) (hG : ∀ c, c ≤ b.length → G c = (lx a b (i + 1) c : Nat)) (hF : F b.length = 0) (c : Nat) (hc : c ≤ b.length) : fillB x b G F c = (lx a b i c : Nat) :=
  fillB_upto hx hn hG hF b.length (Nat.le_refl _) c (by omega) hc

/-- A row from the row above it. -/
theorem fillA_upto {a b : List Int} {i : Nat} {x : Int} {G F : Nat → Int} (hx : a[i]? = some x) (hn : a.length ≤ 1048576) (hG : ∀ c, c ≤ b.length → G c = (px a b i c : Nat)) (hF : F 0 = 0) :
    ∀ k, k ≤ b.length → ∀ c, c ≤ k → fillA x b G F k c = (px a b (i + 1) c : Nat) := by
  intro k
  induction k with
  | zero =>
    intro _ c h1
    obtain rfl : c = 0 := by omega
    rw [px_zero_right]
    exact hF
  | succ k ih =>
    intro hk c h1
    have hkl : k < b.length := by omega
    have hy : b[k]? = some b[k] := List.getElem?_eq_getElem hkl
    generalize b[k] = y at *
    have ih' := ih (by omega)
    show (if c = k + 1 then (if x = (b[k]?.getD 0) then IntKind.i64.wrap (G k + 1) else (if G (k + 1) < fillA x b G F k k then fillA x b G F k k else G (k + 1))) else fillA x b G F k c) = _
    rw [hy, Option.getD_some]
    by_cases e : c = k + 1
    · subst e
      rw [if_pos rfl]
      by_cases exy : x = y
      · subst exy
        rw [if_pos rfl, hG _ (by omega), px_same hx hy, IntWalk.i64_in _ (by have := px_le a b i k; omega)]
        omega
      · rw [if_neg exy, hG _ (by omega), ih' k (Nat.le_refl _), px_other hx hy exy]
        split <;> omega
    · rw [if_neg e]
      exact ih' c (by omega)
theorem fillA_row {a b : List Int} {i : Nat} {x : Int} {G F : Nat → Int} (hx : a[i]? = some x) (hn : a.length ≤ 1048576) (hG : ∀ c, c ≤ b.length → G c = (px a b i c : Nat)) (hF : F 0 = 0) (c : Nat) (hc : c ≤ b.length) : fillA x b G F b.length c = (px a b (i + 1) c : Nat) :=
  fillA_upto hx hn hG hF b.length (Nat.le_refl _) c hc

/-- Ahead and behind together are no more, -/
theorem px_lx_le (a b : List Int) (i j : Nat) : px a b i j + lx a b i j ≤ lcs a b := by
  obtain ⟨s, h1, h2, h3⟩ := lcs_has (a.take i) (b.take j)
  obtain ⟨t, k1, k2, k3⟩ := lcs_has (a.drop i) (b.drop j)
  have e1 : (s ++ t).Sublist a := by have := h1.append k1; rwa [List.take_append_drop] at this
  have e2 : (s ++ t).Sublist b := by have := h2.append k2; rwa [List.take_append_drop] at this
  have := lcs_top e1 e2
  rw [List.length_append] at this
  unfold px lx
  omega
/-- and somewhere in each row just as much. -/
theorem px_lx_has (a b : List Int) (i : Nat) : ∃ j, j ≤ b.length ∧ px a b i j + lx a b i j = lcs a b := by
  obtain ⟨s, h1, h2, h3⟩ := lcs_has a b
  rw [← List.take_append_drop i a] at h1
  obtain ⟨s1, s2, rfl, k1, k2⟩ := List.sublist_append_iff.1 h1
  obtain ⟨b1, b2, rfl, l1, l2⟩ := List.append_sublist_iff.1 h2
  refine ⟨b1.length, by simp, ?_⟩
  have e1 : s1.length ≤ px a (b1 ++ b2) i b1.length := by
    unfold px
    refine lcs_top k1 ?_
    simpa using l1
  have e2 : s2.length ≤ lx a (b1 ++ b2) i b1.length := by
    unfold lx
    refine lcs_top k2 ?_
    simpa using l2
  have := px_lx_le a (b1 ++ b2) i b1.length
  rw [List.length_append] at h3
  omega

/-- One number more. -/
theorem lcs_grow_back (x y : List Int) (z : Int) : lcs x y ≤ lcs (x ++ [z]) y ∧ lcs (x ++ [z]) y ≤ lcs x y + 1 ∧ lcs (x ++ [z]) (y ++ [z]) = lcs x y + 1 := by
  refine ⟨lcs_mono (List.sublist_append_left _ _) (List.Sublist.refl _), ?_, by rw [lcs_back]; rfl⟩
  rw [← lcs_rev (x ++ [z]) y, ← lcs_rev x y, List.reverse_append]
  exact lcs_cons_le _ _ _
theorem lcs_grow_front (x y : List Int) (z : Int) : lcs x y ≤ lcs ([z] ++ x) y ∧ lcs ([z] ++ x) y ≤ lcs x y + 1 ∧ lcs ([z] ++ x) ([z] ++ y) = lcs x y + 1 :=
  ⟨lcs_cons_ge _ _ _, lcs_cons_le _ _ _, by rw [lcs_front]; simp only [List.length_singleton]; omega⟩

/-- Of two subsequences of one list what they share. -/
theorem share : ∀ {z s t : List Int}, s.Sublist z → t.Sublist z → ∃ u : List Int, u.Sublist s ∧ u.Sublist t ∧ s.length + t.length ≤ u.length + z.length := by
  intro z
  induction z with
  | nil =>
    intro s t hs ht
    have := List.sublist_nil.1 hs
    have := List.sublist_nil.1 ht
    subst_vars
    exact ⟨[], List.Sublist.refl _, List.Sublist.refl _, by simp⟩
  | cons c z ih =>
    intro s t hs ht
    cases hs with
    | cons _ hs =>
      cases ht with
      | cons _ ht =>
        obtain ⟨u, h1, h2, h3⟩ := ih hs ht
        exact ⟨u, h1, h2, by simp only [List.length_cons]; omega⟩
      | cons_cons _ ht =>
        obtain ⟨u, h1, h2, h3⟩ := ih hs ht
        exact ⟨u, h1, h2.cons _, by simp only [List.length_cons]; omega⟩
    | cons_cons _ hs =>
      cases ht with
      | cons _ ht =>
        obtain ⟨u, h1, h2, h3⟩ := ih hs ht
        exact ⟨u, h1.cons _, h2, by simp only [List.length_cons]; omega⟩
      | cons_cons _ ht =>
        obtain ⟨u, h1, h2, h3⟩ := ih hs ht
        exact ⟨c :: u, h1.cons_cons _, h2.cons_cons _, by simp only [List.length_cons]; omega⟩
theorem lcs_third (x y z : List Int) : lcs x z + lcs z y ≤ lcs x y + z.length := by
  obtain ⟨s, h1, h2, h3⟩ := lcs_has x z
  obtain ⟨t, k1, k2, k3⟩ := lcs_has z y
  obtain ⟨u, l1, l2, l3⟩ := share h2 k1
  have := lcs_top (l1.trans h1) (l2.trans k2)
  omega
/-- How far two lists are from each other. -/
def dist (x y : List Int) : Nat := x.length + y.length - 2 * lcs x y
theorem dist_int (x y : List Int) : ((x.length : Int) + y.length - 2 * (lcs x y : Nat)) = (dist x y : Nat) := by
  have := lcs_le_left x y
  have := lcs_le_right x y
  unfold dist
  omega
theorem dist_comm (x y : List Int) : dist x y = dist y x := by unfold dist; rw [lcs_comm x y]; omega
theorem dist_zero (x y : List Int) : (dist x y = 0) ↔ x = y := by
  have h1 := lcs_le_left x y
  have h2 := lcs_le_right x y
  constructor
  · intro h
    unfold dist at h
    obtain ⟨s, k1, k2, k3⟩ := lcs_has x y
    have e1 := k1.eq_of_length (by omega)
    have e2 := k2.eq_of_length (by omega)
    rw [← e1, ← e2]
  · rintro rfl
    unfold dist
    rw [lcs_self]
    omega
theorem dist_third (x y z : List Int) : dist x y ≤ dist x z + dist z y := by
  have := lcs_third x y z
  have := lcs_le_left x y
  have := lcs_le_right x y
  have := lcs_le_left x z
  have := lcs_le_right x z
  have := lcs_le_left z y
  have := lcs_le_right z y
  unfold dist
  omega
theorem dist_le (x y : List Int) : dist x y ≤ x.length + y.length := by unfold dist; omega

end Go.Proofs.Ythpinbmimgojnaa

namespace Go.Proofs.Ythpinbmimgojnaa

theorem take_pad {a : List Int} {r : Nat} (h : a[r]? = none) : a.take (r + 1) = a.take r := by
  have := List.getElem?_eq_none_iff.1 h
  rw [List.take_of_length_le (by omega), List.take_of_length_le this]
theorem px_pad_left {a b : List Int} {r : Nat} (c : Nat) (h : a[r]? = none) : px a b (r + 1) c = px a b r c := by unfold px; rw [take_pad h]
theorem px_pad_right {a b : List Int} {c : Nat} (r : Nat) (h : b[c]? = none) : px a b r (c + 1) = px a b r c := by unfold px; rw [take_pad h]
/-- Steps down columns are 0 or 1. -/
theorem px_v (a b : List Int) (r c : Nat) : px a b r c ≤ px a b (r + 1) c ∧ px a b (r + 1) c ≤ px a b r c + 1 := by
  cases h : a[r]? with
  | none => rw [px_pad_left c h]; omega
  | some x =>
    unfold px
    rw [take_snoc h]
    have := lcs_grow_back (a.take r) (b.take c) x
    omega
theorem px_comm (a b : List Int) (r c : Nat) : px a b r c = px b a c r := by unfold px; rw [lcs_comm]
/-- Steps along rows are 0 or 1. -/
theorem px_h (a b : List Int) (r c : Nat) : px a b r c ≤ px a b r (c + 1) ∧ px a b r (c + 1) ≤ px a b r c + 1 := by
  rw [px_comm a b r c, px_comm a b r (c + 1)]
  exact px_v b a c r
/-- The same number stands at both places. -/
def alikeAt (a b : List Int) (r c : Nat) : Bool := match a[r]?, b[c]? with | some x, some y => x == y | _, _ => false
theorem px_step (a b : List Int) (r c : Nat) : px a b (r + 1) (c + 1) = if alikeAt a b r c = true then px a b r c + 1 else max (px a b r (c + 1)) (px a b (r + 1) c) := by
  unfold alikeAt
  cases h1 : a[r]? with
  | none =>
    simp only [Bool.false_eq_true, if_false]
    rw [px_pad_left (c + 1) h1, px_pad_left c h1]
    have := px_h a b r c
    omega
  | some x =>
    cases h2 : b[c]? with
    | none =>
      simp only [Bool.false_eq_true, if_false]
      rw [px_pad_right (r + 1) h2, px_pad_right r h2]
      have := px_v a b r c
      omega
    | some y =>
      by_cases e : x = y
      · subst e
        simp only [beq_self_eq_true, if_true]
        exact px_same h1 h2
      · have e' : (x == y) = false := by simpa using e
        simp only [e', Bool.false_eq_true, if_false]
        exact px_other h1 h2 e

/-- A square that stands at (i, j) of the table. -/
structure Stands (a b : List Int) (t eq top left i j : Nat) : Prop where
  alike : ∀ r c, r < t → c < t → bitN eq (r * t + c) = if alikeAt a b (i + r) (j + c) = true then 1 else 0
  top : ∀ c, c < t → bitN top c = px a b i (j + c + 1) - px a b i (j + c)
  left : ∀ r, r < t → bitN left r = px a b (i + r + 1) j - px a b (i + r) j
theorem stands_at {a b : List Int} {t eq top left i j : Nat} (h : Stands a b t eq top left i j) : ∀ r c, r ≤ t → c ≤ t → px a b i j + sqN t eq top left r c = px a b (i + r) (j + c)
  | 0, 0, _, _ => by rw [sqN_top]; rfl
  | 0, c + 1, h1, h2 => by
    have := stands_at h 0 c h1 (by omega)
    have e := h.top c (by omega)
    have g := px_h a b i (j + c)
    have e2 : px a b (i + 0) (j + (c + 1)) = px a b i (j + c + 1) := rfl
    have e3 : px a b (i + 0) (j + c) = px a b i (j + c) := rfl
    rw [sqN_top, sumN, ← sqN_top t eq top left, e]
    omega
  | r + 1, 0, h1, h2 => by
    have := stands_at h r 0 (by omega) h2
    have e := h.left r (by omega)
    have g := px_v a b (i + r) j
    have e2 : px a b (i + (r + 1)) (j + 0) = px a b (i + r + 1) j := rfl
    have e3 : px a b (i + r) (j + 0) = px a b (i + r) j := rfl
    rw [sqN_left, sumN, ← sqN_left t eq top left, e]
    omega
  | r + 1, c + 1, h1, h2 => by
    have f1 := stands_at h r c (by omega) (by omega)
    have f2 := stands_at h r (c + 1) (by omega) h2
    have f3 := stands_at h (r + 1) c h1 (by omega)
    have e := h.alike r c (by omega) (by omega)
    rw [← Nat.add_assoc] at f2 f3 ⊢
    have g := px_step a b (i + r) (j + c)
    rw [← Nat.add_assoc, g]
    have q : sqN t eq top left (r + 1) (c + 1) = if bitN eq (r * t + c) = 1 then sqN t eq top left r c + 1 else max (sqN t eq top left r (c + 1)) (sqN t eq top left (r + 1) c) := by
      unfold sqN
      rw [sq_rc]
      simp
    rw [q, e]
    by_cases hh : alikeAt a b (i + r) (j + c) = true
    · simp only [hh, if_true]
      omega
    · rw [if_neg hh, if_neg hh, if_neg (by decide)]
      omega
termination_by r c => (r, c)
theorem stands_bot {a b : List Int} {t eq top left i j : Nat} (h : Stands a b t eq top left i j) {k : Nat} (hk : k < t) : bitN (botN t eq top left) k = px a b (i + t) (j + k + 1) - px a b (i + t) (j + k) := by
  have h1 := stands_at h t k (Nat.le_refl _) (by omega)
  have h2 := stands_at h t (k + 1) (Nat.le_refl _) hk
  unfold botN
  rw [num_bit (botF_le t eq top left) t k hk]
  unfold botF
  rw [← Nat.add_assoc] at h2
  omega
theorem stands_rgt {a b : List Int} {t eq top left i j : Nat} (h : Stands a b t eq top left i j) {k : Nat} (hk : k < t) : bitN (rgtN t eq top left) k = px a b (i + k + 1) (j + t) - px a b (i + k) (j + t) := by
  have h1 := stands_at h k t (by omega) (Nat.le_refl _)
  have h2 := stands_at h (k + 1) t hk (Nat.le_refl _)
  unfold rgtN
  rw [num_bit (rgtF_le t eq top left) t k hk]
  unfold rgtF
  rw [← Nat.add_assoc] at h2
  omega
/-- The steps of a row add up to its last number. -/
theorem px_sum (a b : List Int) (r : Nat) : ∀ c, sumN (fun k => px a b r (k + 1) - px a b r k) c = px a b r c
  | 0 => by rw [px_zero_right]; rfl
  | c + 1 => by have := px_sum a b r c; have := px_h a b r c; rw [sumN]; omega
theorem px_beyond (a b : List Int) {r c : Nat} (hr : a.length ≤ r) (hc : b.length ≤ c) : px a b r c = lcs a b := by unfold px; rw [List.take_of_length_le hr, List.take_of_length_le hc]
/-- How many squares of side t a length takes. -/
def upN (n t : Nat) : Nat := (n + t - 1) / t
theorem upN_ge {n t : Nat} (ht : 1 ≤ t) : n ≤ upN n t * t := by
  unfold upN
  have h1 := Nat.div_add_mod (n + t - 1) t
  have h2 := Nat.mod_lt (n + t - 1) ht
  rw [Nat.mul_comm] at h1
  omega
theorem upN_mono {n m t : Nat} (h : n ≤ m) : upN n t ≤ upN m t := Nat.div_le_div_right (by omega)
theorem upN_le {n s t : Nat} (hs : 1 ≤ s) (h : s ≤ t) : upN n t ≤ upN n s := by
  unfold upN
  rw [Nat.div_le_iff_le_mul_add_pred (by omega)]
  have h1 := upN_ge (n := n) hs
  unfold upN at h1
  have h2 := Nat.mul_le_mul_left ((n + s - 1) / s) h
  rw [Nat.mul_comm t]
  omega

end Go.Proofs.Ythpinbmimgojnaa

namespace Go.Proofs.Ythpinbmimgojnaa

def apN (i j : Nat) : Nat := (i - j) + (j - i)
/-- Within the bound? -/
def inB (n m k i j : Nat) : Bool := decide (apN i j + apN (n - i) (m - j) ≤ k)
/-- How many of the first so many places; of the first so many rows. -/
def rowC (f : Nat → Bool) : Nat → Nat
  | 0 => 0
  | j + 1 => rowC f j + if f j = true then 1 else 0
def tabC (f : Nat → Nat → Bool) (M : Nat) : Nat → Nat
  | 0 => 0
  | i + 1 => tabC f M i + rowC (f i) M
/-- Cells, counted one by one. -/
def clN (n m k : Nat) : Nat := tabC (inB n m k) (m + 1) (n + 1)
/-- Cells, reckoned: lesser length, what is to spare on each side. -/
def clX (n m k : Nat) : Nat := min n m - (k - apN n m) / 2
def clQ (n m k : Nat) : Nat := if k < apN n m then 0 else (n + 1) * (m + 1) - clX n m k * (clX n m k + 1)

theorem rowC_seg {f : Nat → Bool} {lo hi : Nat} (hl : lo ≤ hi) : ∀ M, (∀ j, j < M → f j = decide (lo ≤ j ∧ j < hi)) → rowC f M = min hi M - min lo M
  | 0, _ => by simp [rowC]
  | M + 1, h => by
    show rowC f M + _ = _
    rw [rowC_seg hl M fun j hj => h j (by omega), h M (by omega)]
    by_cases e : lo ≤ M ∧ M < hi
    · rw [if_pos (decide_eq_true e)]
      omega
    · rw [if_neg (by simpa using e)]
      omega
theorem rowC_none {f : Nat → Bool} : ∀ M, (∀ j, j < M → f j = false) → rowC f M = 0
  | 0, _ => rfl
  | M + 1, h => by
    show rowC f M + _ = _
    rw [rowC_none M fun j hj => h j (by omega), h M (by omega)]
    rfl
theorem tabC_none {f : Nat → Nat → Bool} {M : Nat} : ∀ c, (∀ i, i < c → ∀ j, j < M → f i j = false) → tabC f M c = 0
  | 0, _ => rfl
  | c + 1, h => by
    show tabC f M c + _ = _
    rw [tabC_none c fun i hi => h i (by omega), rowC_none M (h c (by omega))]
theorem inB_seg {n m k i j : Nat} (hW : apN n m ≤ k) (hi : i ≤ n) (hj : j ≤ m) : inB n m k i j = decide (i - ((n - min n m) + (k - apN n m) / 2) ≤ j ∧ j < i + (m - min n m) + (k - apN n m) / 2 + 1) := by
  unfold inB
  unfold apN at *
  simp only [decide_eq_decide]
  omega
theorem row_cells {n m k i : Nat} (hW : apN n m ≤ k) (hi : i ≤ n) : rowC (inB n m k i) (m + 1) + (clX n m k - i) + (i - ((n - min n m) + (k - apN n m) / 2)) = m + 1 := by
  rw [rowC_seg (lo := i - ((n - min n m) + (k - apN n m) / 2)) (hi := i + (m - min n m) + (k - apN n m) / 2 + 1) (by omega) (m + 1) fun j hj => inB_seg hW hi (by omega)]
  unfold clX
  generalize (k - apN n m) / 2 = q
  omega
/-- Sums of what falls, of what rises. -/
def sV (X : Nat) : Nat → Nat
  | 0 => 0
  | c + 1 => sV X c + (X - c)
def sL (B : Nat) : Nat → Nat
  | 0 => 0
  | c + 1 => sL B c + (c - B)
theorem tab_cells {n m k : Nat} (hW : apN n m ≤ k) : ∀ c, c ≤ n + 1 → tabC (inB n m k) (m + 1) c + sV (clX n m k) c + sL ((n - min n m) + (k - apN n m) / 2) c = c * (m + 1)
  | 0, _ => by simp [tabC, sV, sL]
  | c + 1, h => by
    have h1 := tab_cells hW c (by omega)
    have h2 := row_cells (n := n) (m := m) (k := k) (i := c) hW (by omega)
    rw [Nat.succ_mul]
    show tabC (inB n m k) (m + 1) c + rowC (inB n m k c) (m + 1) + (sV (clX n m k) c + (clX n m k - c)) + (sL ((n - min n m) + (k - apN n m) / 2) c + (c - ((n - min n m) + (k - apN n m) / 2))) = _
    omega
theorem sL_is (B : Nat) : ∀ c, 2 * sL B c = (c - B) * (c - B - 1)
  | 0 => by simp [sL]
  | c + 1 => by
    have h := sL_is B c
    show 2 * (sL B c + (c - B)) = _
    rw [Nat.mul_add, h]
    rcases Nat.lt_or_ge c B with e | e
    · rw [show c - B = 0 by omega, show c + 1 - B = 0 by omega]
    · obtain ⟨d, rfl⟩ : ∃ d, c = B + d := ⟨c - B, by omega⟩
      rw [show B + d - B = d by omega, show B + d + 1 - B = d + 1 by omega, show d + 1 - 1 = d by omega]
      cases d with
      | zero => rfl
      | succ d =>
        rw [show d + 1 - 1 = d by omega]
        simp only [Nat.add_mul, Nat.mul_add]
        omega
theorem sV_is (X : Nat) : ∀ c, 2 * sV X c + (X - c) * (X - c + 1) = X * (X + 1)
  | 0 => by simp [sV]
  | c + 1 => by
    have h := sV_is X c
    show 2 * (sV X c + (X - c)) + _ = _
    rcases Nat.lt_or_ge c X with e | e
    · obtain ⟨d, rfl⟩ : ∃ d, X = c + (d + 1) := ⟨X - c - 1, by omega⟩
      rw [show c + (d + 1) - c = d + 1 by omega] at h ⊢
      rw [show c + (d + 1) - (c + 1) = d by omega]
      simp only [Nat.add_mul, Nat.mul_add] at h ⊢
      omega
    · rw [show X - c = 0 by omega] at h ⊢
      rw [show X - (c + 1) = 0 by omega]
      simpa using h
/-- What is counted is what is reckoned. -/
theorem cl_is (n m k : Nat) : clN n m k = clQ n m k := by
  unfold clQ
  by_cases hW : k < apN n m
  · rw [if_pos hW]
    refine tabC_none _ fun i hi j hj => ?_
    unfold inB
    unfold apN at *
    exact decide_eq_false (by omega)
  · rw [if_neg hW]
    have h := tab_cells (n := n) (m := m) (k := k) (by omega) (n + 1) (Nat.le_refl _)
    have h1 := sV_is (clX n m k) (n + 1)
    have h2 := sL_is ((n - min n m) + (k - apN n m) / 2) (n + 1)
    have e1 : clX n m k - (n + 1) = 0 := by unfold clX; omega
    rw [e1] at h1
    have e2 : (n + 1 - ((n - min n m) + (k - apN n m) / 2)) * (n + 1 - ((n - min n m) + (k - apN n m) / 2) - 1) = clX n m k * (clX n m k + 1) := by
      unfold clX
      generalize (k - apN n m) / 2 = q
      by_cases hq : q ≤ min n m
      · rw [show n + 1 - (n - min n m + q) = min n m - q + 1 by omega, show min n m - q + 1 - 1 = min n m - q by omega, Nat.mul_comm]
      · rw [show n + 1 - (n - min n m + q) = 0 by omega, show min n m - q = 0 by omega]
    rw [e2] at h2
    unfold clN
    generalize clX n m k * (clX n m k + 1) = Y at *
    omega
/-- The same, by diagonals. -/
theorem cl_diag {n m k : Nat} (h : apN n m ≤ k) : clQ n m k = (apN n m + 1) * (min n m + 1) + min ((k - apN n m) / 2) (min n m) * (2 * min n m + 1 - min ((k - apN n m) / 2) (min n m)) := by
  unfold clQ
  rw [if_neg (by omega)]
  unfold clX
  generalize (k - apN n m) / 2 = q
  have e : (n + 1) * (m + 1) = (apN n m + min n m + 1) * (min n m + 1) := by
    unfold apN
    rcases Nat.le_total n m with h | h
    · rw [Nat.min_eq_left h, show n - m + (m - n) + n + 1 = m + 1 by omega, Nat.mul_comm]
    · rw [Nat.min_eq_right h, show n - m + (m - n) + m + 1 = n + 1 by omega]
  rw [e]
  generalize min n m = N
  generalize apN n m = W
  rcases Nat.le_total q N with hq | hq
  · obtain ⟨d, rfl⟩ : ∃ d, N = q + d := ⟨N - q, by omega⟩
    rw [Nat.min_eq_left hq, show q + d - q = d by omega, show 2 * (q + d) + 1 - q = q + 2 * d + 1 by omega]
    have : (W + (q + d) + 1) * (q + d + 1) = (W + 1) * (q + d + 1) + q * (q + 2 * d + 1) + d * (d + 1) := by
      simp only [Nat.add_mul, Nat.mul_add, Nat.mul_one, Nat.one_mul]
      rw [Nat.mul_comm d q, show q * (2 * d) = 2 * (q * d) by rw [Nat.mul_left_comm]]
      omega
    omega
  · rw [Nat.min_eq_right hq, show N - q = 0 by omega, show 2 * N + 1 - N = N + 1 by omega, Nat.zero_mul, Nat.sub_zero]
    simp only [Nat.add_mul, Nat.mul_add, Nat.mul_one, Nat.one_mul]
    omega
theorem cl_few (n m k : Nat) : clQ n m k ≤ (k + 1) * (min n m + 1) := by
  by_cases h : k < apN n m
  · unfold clQ
    rw [if_pos h]
    exact Nat.zero_le _
  · rw [cl_diag (by omega)]
    obtain ⟨q, hq⟩ : ∃ q, (k - apN n m) / 2 = q := ⟨_, rfl⟩
    rw [hq]
    have h1 : min q (min n m) * (2 * min n m + 1 - min q (min n m)) ≤ q * (2 * min n m + 1) := Nat.mul_le_mul (Nat.min_le_left _ _) (by omega)
    have h2 : (apN n m + 2 * q + 1) * (min n m + 1) ≤ (k + 1) * (min n m + 1) := Nat.mul_le_mul_right _ (by omega)
    have h3 : (apN n m + 2 * q + 1) * (min n m + 1) = (apN n m + 1) * (min n m + 1) + q * (2 * min n m + 1) + q := by
      simp only [Nat.add_mul, Nat.mul_add, Nat.mul_one, Nat.one_mul]
      rw [show 2 * q * min n m = q * (2 * min n m) by rw [Nat.mul_assoc, Nat.mul_left_comm]]
      omega
    omega
theorem cl_mono (n m : Nat) {k k' : Nat} (h : k ≤ k') : clQ n m k ≤ clQ n m k' := by
  unfold clQ
  by_cases h1 : k < apN n m
  · rw [if_pos h1]
    exact Nat.zero_le _
  · rw [if_neg h1, if_neg (by omega)]
    have : clX n m k' ≤ clX n m k := by unfold clX; omega
    have := Nat.mul_le_mul this (Nat.succ_le_succ this)
    exact Nat.sub_le_sub_left this _
theorem cl_comm (n m k : Nat) : clQ n m k = clQ m n k := by
  have e1 : apN n m = apN m n := by unfold apN; omega
  unfold clQ clX
  rw [e1, Nat.min_comm, Nat.mul_comm (n + 1)]
theorem cl_all {n m k : Nat} (h : n + m ≤ k) : clQ n m k = (n + 1) * (m + 1) := by
  have e : clX n m k = 0 := by unfold clX apN; omega
  unfold clQ
  rw [if_neg (by unfold apN; omega), e]
  rfl

end Go.Proofs.Ythpinbmimgojnaa

namespace Go.Proofs.Ythpinbmimgojnaa

/-- What a point costs. -/
def cst (x y : List Int) (W i j : Nat) : Nat := (i - px x y i j) + (j - (i + W))
theorem px_le_i (x y : List Int) (i j : Nat) : px x y i j ≤ i := by
  have := lcs_le_left (x.take i) (y.take j)
  rw [List.length_take] at this
  unfold px
  omega
theorem px_le_j (x y : List Int) (i j : Nat) : px x y i j ≤ j := by
  have := lcs_le_right (x.take i) (y.take j)
  rw [List.length_take] at this
  unfold px
  omega
theorem px_diag (x y : List Int) (i j : Nat) : px x y i j ≤ px x y (i + 1) (j + 1) ∧ px x y (i + 1) (j + 1) ≤ px x y i j + 1 := by
  have h1 := px_v x y i j
  have h2 := px_h x y i j
  have h3 := px_step x y i j
  have h4 := px_h x y (i + 1) j
  split at h3 <;> omega
theorem cst_diag (x y : List Int) (W i j : Nat) : cst x y W i j ≤ cst x y W (i + 1) (j + 1) := by
  have h := px_diag x y i j
  have := px_le_i x y i j
  have := px_le_i x y (i + 1) (j + 1)
  unfold cst
  omega
theorem cst_far (x y : List Int) (W i j : Nat) : ∀ d, cst x y W i j ≤ cst x y W (i + d) (j + d)
  | 0 => Nat.le_refl _
  | d + 1 => Nat.le_trans (cst_far x y W i j d) (cst_diag x y W (i + d) (j + d))
theorem cst_same {x y : List Int} {W i j : Nat} {u : Int} (h1 : x[i]? = some u) (h2 : y[j]? = some u) : cst x y W (i + 1) (j + 1) = cst x y W i j := by
  have h := px_same h1 h2
  have := px_le_i x y i j
  unfold cst
  omega
theorem cst_run (x y : List Int) (W i j : Nat) : ∀ d, d ≤ dnN x y i j → cst x y W (i + d) (j + d) = cst x y W i j
  | 0, _ => rfl
  | d + 1, h => by
    have ih := cst_run x y W i j d (by omega)
    obtain ⟨l1, l2⟩ := dnN_le x y i j
    have e0 := congrArg (fun l => l[d]?) (dn_take x y i j)
    simp only [List.getElem?_take, if_pos (show d < dnN x y i j by omega), List.getElem?_drop] at e0
    have g1 : x[i + d]? = some (x[i + d]'(by omega)) := List.getElem?_eq_getElem _
    have g2 : y[j + d]? = some (x[i + d]'(by omega)) := by rw [← e0]; exact g1
    rw [← ih]
    exact cst_same g1 g2
/-- Down a row, right a column; and back. -/
theorem cst_down (x y : List Int) (W i j : Nat) : cst x y W (i + 1) j + (if i + W < j then 1 else 0) ≤ cst x y W i j + 1 := by
  have := (px_v x y i j).1
  have := px_le_i x y i j
  unfold cst
  split <;> omega
theorem cst_right (x y : List Int) (W i j : Nat) : cst x y W i (j + 1) ≤ cst x y W i j + (if i + W ≤ j then 1 else 0) := by
  have := (px_h x y i j).1
  have := px_le_i x y i (j + 1)
  unfold cst
  split <;> omega
theorem cst_up (x y : List Int) (W i j : Nat) : cst x y W i j ≤ cst x y W (i + 1) j + (if i + W < j then 1 else 0) := by
  have := (px_v x y i j).2
  have := px_le_i x y i j
  unfold cst
  split <;> omega
theorem cst_left (x y : List Int) (W i j : Nat) : cst x y W i j + (if i + W ≤ j then 1 else 0) ≤ cst x y W i (j + 1) + 1 := by
  have := (px_h x y i j).2
  have := px_le_i x y i j
  unfold cst
  split <;> omega
/-- Where two numbers are not alike, the cost comes from a neighbour. -/
theorem cst_other {x y : List Int} {W i j : Nat} {u v : Int} (h1 : x[i]? = some u) (h2 : y[j]? = some v) (hne : u ≠ v) :
    cst x y W i (j + 1) + 1 ≤ cst x y W (i + 1) (j + 1) + (if i + W ≤ j then 1 else 0) ∨ cst x y W (i + 1) j + (if i + W < j then 1 else 0) ≤ cst x y W (i + 1) (j + 1) := by
  have h := px_other h1 h2 hne
  have := px_le_i x y i (j + 1)
  have := px_le_i x y (i + 1) j
  unfold cst
  by_cases e : px x y i (j + 1) ≤ px x y (i + 1) j
  · right
    split <;> omega
  · left
    split <;> omega
theorem cst_ge (x y : List Int) (W i j : Nat) : i ≤ cst x y W i j + j ∧ j ≤ cst x y W i j + i + W := by
  have := px_le_j x y i j
  unfold cst
  omega

/-- The greatest j of a diagonal's points, of those in the first rows, whose cost is at most p; -1 where there is none. -/
def frB (x y : List Int) (W : Nat) (p k : Int) : Nat → Int
  | 0 => -1
  | i + 1 => if (0 ≤ (i : Int) + k ∧ (i : Int) + k ≤ (y.length : Int)) ∧ (cst x y W i ((i : Int) + k).toNat : Int) ≤ p then max (frB x y W p k i) ((i : Int) + k) else frB x y W p k i
def fr (x y : List Int) (W : Nat) (p k : Int) : Int := frB x y W p k (x.length + 1)
theorem frB_ge (x y : List Int) (W : Nat) (p k : Int) (i j : Nat) (hj : j ≤ y.length) (hk : (j : Int) - i = k) (hc : (cst x y W i j : Int) ≤ p) : ∀ c, i < c → (j : Int) ≤ frB x y W p k c
  | 0, h => absurd h (Nat.not_lt_zero _)
  | c + 1, h => by
    rw [frB]
    by_cases e : i = c
    · subst e
      have ej : ((i : Int) + k).toNat = j := by omega
      rw [if_pos ⟨⟨by omega, by omega⟩, by rw [ej]; exact hc⟩]
      omega
    · have ih := frB_ge x y W p k i j hj hk hc c (by omega)
      split <;> omega
theorem frB_is (x y : List Int) (W : Nat) (p k : Int) : ∀ c, frB x y W p k c = -1 ∨ ∃ i j : Nat, i < c ∧ j ≤ y.length ∧ (j : Int) - i = k ∧ (cst x y W i j : Int) ≤ p ∧ frB x y W p k c = j
  | 0 => .inl rfl
  | c + 1 => by
    have ih := frB_is x y W p k c
    rw [frB]
    split
    · rename_i h
      obtain ⟨⟨h1, h2⟩, h3⟩ := h
      right
      by_cases g : (c : Int) + k ≤ frB x y W p k c
      · rcases ih with e | ⟨i, j, a1, a2, a3, a4, a5⟩
        · omega
        · exact ⟨i, j, by omega, a2, a3, a4, by omega⟩
      · exact ⟨c, ((c : Int) + k).toNat, by omega, by omega, by omega, h3, by omega⟩
    · rcases ih with e | ⟨i, j, a1, a2, a3, a4, a5⟩
      · exact .inl e
      · exact .inr ⟨i, j, by omega, a2, a3, a4, a5⟩
theorem fr_ge {x y : List Int} {W : Nat} {p k : Int} {i j : Nat} (hi : i ≤ x.length) (hj : j ≤ y.length) (hk : (j : Int) - i = k) (hc : (cst x y W i j : Int) ≤ p) : (j : Int) ≤ fr x y W p k := frB_ge x y W p k i j hj hk hc _ (by omega)
theorem fr_is (x y : List Int) (W : Nat) (p k : Int) : fr x y W p k = -1 ∨ ∃ i j : Nat, i ≤ x.length ∧ j ≤ y.length ∧ (j : Int) - i = k ∧ (cst x y W i j : Int) ≤ p ∧ fr x y W p k = j := by
  rcases frB_is x y W p k (x.length + 1) with e | ⟨i, j, a1, a2, a3, a4, a5⟩
  · exact .inl e
  · exact .inr ⟨i, j, by omega, a2, a3, a4, a5⟩
theorem fr_low (x y : List Int) (W : Nat) (p k : Int) : -1 ≤ fr x y W p k ∧ fr x y W p k ≤ y.length := by
  rcases fr_is x y W p k with e | ⟨i, j, a1, a2, a3, a4, a5⟩ <;> omega
theorem fr_mono (x y : List Int) (W : Nat) {p q : Int} (k : Int) (h : p ≤ q) : fr x y W p k ≤ fr x y W q k := by
  rcases fr_is x y W p k with e | ⟨i, j, a1, a2, a3, a4, a5⟩
  · have := (fr_low x y W q k).1
    omega
  · rw [a5]
    exact fr_ge a1 a2 a3 (by omega)
theorem fr_out {x y : List Int} {W : Nat} {p k : Int} (h : k < -p ∨ (W : Int) + p < k) : fr x y W p k = -1 := by
  rcases fr_is x y W p k with e | ⟨i, j, a1, a2, a3, a4, a5⟩
  · exact e
  · have := cst_ge x y W i j
    omega
/-- What one comes to from the diagonal above, and from the one below. -/
def upV (x y : List Int) (W : Nat) (p k : Int) : Int := if k < (W : Int) then fr x y W (p - 1) (k + 1) else fr x y W p (k + 1)
def lfV (x y : List Int) (W : Nat) (p k : Int) : Int := (if k ≤ (W : Int) then fr x y W p (k - 1) else fr x y W (p - 1) (k - 1)) + 1
/-- From a point that may be had at the cost, and that no neighbour goes beyond, a run ends where the diagonal ends at that cost. -/
theorem fr_run {x y : List Int} {W : Nat} {p k : Int} {i s : Nat} (hi : i ≤ x.length) (hs : s ≤ y.length) (hk : (s : Int) - i = k) (hc : (cst x y W i s : Int) ≤ p) (hu : upV x y W p k ≤ s ∨ i = x.length ∨ s = y.length) (hv : lfV x y W p k ≤ s ∨ i = x.length ∨ s = y.length) :
    fr x y W p k = ((s + dnN x y i s : Nat) : Int) := by
  obtain ⟨l1, l2⟩ := dnN_le x y i s
  have hr := cst_run x y W i s _ (Nat.le_refl _)
  have hge := fr_ge (x := x) (y := y) (W := W) (p := p) (k := k) (i := i + dnN x y i s) (j := s + dnN x y i s) (by omega) (by omega) (by omega) (by omega)
  have hend := dn_end x y i s hi hs
  generalize dnN x y i s = D at *
  rcases fr_is x y W p k with e | ⟨i', j, a1, a2, a3, a4, a5⟩
  · omega
  · by_cases hlt : s + D < j
    · exfalso
      have hf := cst_far x y W (i + D + 1) (s + D + 1) (j - (s + D + 1))
      rw [show s + D + 1 + (j - (s + D + 1)) = j by omega, show i + D + 1 + (j - (s + D + 1)) = i' by omega] at hf
      rcases hend with h | h | ⟨u, v, h1, h2, hne⟩
      · omega
      · omega
      · have ho := cst_other (W := W) h1 h2 hne
        rcases ho with ho | ho
        · have hu' : upV x y W p k ≤ s := by omega
          unfold upV at hu'
          split at hu'
          · rename_i hkW
            have := fr_ge (x := x) (y := y) (W := W) (p := p - 1) (k := k + 1) (i := i + D) (j := s + D + 1) (by omega) (by omega) (by omega) (by rw [if_neg (by omega)] at ho; omega)
            omega
          · rename_i hkW
            have := fr_ge (x := x) (y := y) (W := W) (p := p) (k := k + 1) (i := i + D) (j := s + D + 1) (by omega) (by omega) (by omega) (by rw [if_pos (by omega)] at ho; omega)
            omega
        · have hv' : lfV x y W p k ≤ s := by omega
          unfold lfV at hv'
          split at hv'
          · rename_i hkW
            have := fr_ge (x := x) (y := y) (W := W) (p := p) (k := k - 1) (i := i + D + 1) (j := s + D) (by omega) (by omega) (by omega) (by omega)
            omega
          · rename_i hkW
            have := fr_ge (x := x) (y := y) (W := W) (p := p - 1) (k := k - 1) (i := i + D + 1) (j := s + D) (by omega) (by omega) (by omega) (by rw [if_pos (by omega)] at ho; omega)
            omega
    · omega
/-- The candidates may be had at the cost, or the point ahead of them where they are beyond the table. -/
theorem lf_pt {x y : List Int} {W : Nat} {p k : Int} (hk : k ≤ y.length) (h : 1 ≤ lfV x y W p k) : ∃ i s : Nat, i ≤ x.length ∧ s ≤ y.length ∧ (s : Int) - i = k ∧ (cst x y W i s : Int) ≤ p ∧ (lfV x y W p k = s ∨ (lfV x y W p k = (s : Int) + 1 ∧ s = y.length)) := by
  unfold lfV at h ⊢
  split at h
  · rename_i hkW
    rw [if_pos hkW]
    rcases fr_is x y W p (k - 1) with e | ⟨i, j, a1, a2, a3, a4, a5⟩
    · omega
    · by_cases hj : j < y.length
      · have := cst_right x y W i j
        rw [if_neg (by omega)] at this
        exact ⟨i, j + 1, a1, hj, by omega, by omega, .inl (by omega)⟩
      · have hi : 0 < i := by omega
        have := cst_up x y W (i - 1) j
        rw [show i - 1 + 1 = i by omega, if_neg (by omega)] at this
        exact ⟨i - 1, j, by omega, a2, by omega, by omega, .inr ⟨by omega, by omega⟩⟩
  · rename_i hkW
    rw [if_neg hkW]
    rcases fr_is x y W (p - 1) (k - 1) with e | ⟨i, j, a1, a2, a3, a4, a5⟩
    · omega
    · by_cases hj : j < y.length
      · have := cst_right x y W i j
        rw [if_pos (by omega)] at this
        exact ⟨i, j + 1, a1, hj, by omega, by omega, .inl (by omega)⟩
      · have hi : 0 < i := by omega
        have := cst_up x y W (i - 1) j
        rw [show i - 1 + 1 = i by omega, if_pos (by omega)] at this
        exact ⟨i - 1, j, by omega, a2, by omega, by omega, .inr ⟨by omega, by omega⟩⟩
theorem up_pt {x y : List Int} {W : Nat} {p k : Int} (hk : -(x.length : Int) ≤ k) (h : 0 ≤ upV x y W p k) : ∃ i s : Nat, i ≤ x.length ∧ s ≤ y.length ∧ (s : Int) - i = k ∧ (cst x y W i s : Int) ≤ p ∧ (upV x y W p k = s ∨ (upV x y W p k = (s : Int) + 1 ∧ i = x.length)) := by
  unfold upV at h ⊢
  split at h
  · rename_i hkW
    rw [if_pos hkW]
    rcases fr_is x y W (p - 1) (k + 1) with e | ⟨i, j, a1, a2, a3, a4, a5⟩
    · omega
    · by_cases hi : i < x.length
      · have := cst_down x y W i j
        exact ⟨i + 1, j, hi, a2, by omega, by omega, .inl (by omega)⟩
      · have hj : 0 < j := by omega
        have := cst_left x y W i (j - 1)
        rw [show j - 1 + 1 = j by omega] at this
        exact ⟨i, j - 1, a1, by omega, by omega, by omega, .inr ⟨by omega, by omega⟩⟩
  · rename_i hkW
    rw [if_neg hkW]
    rcases fr_is x y W p (k + 1) with e | ⟨i, j, a1, a2, a3, a4, a5⟩
    · omega
    · by_cases hi : i < x.length
      · have := cst_down x y W i j
        rw [if_pos (by omega)] at this
        exact ⟨i + 1, j, hi, a2, by omega, by omega, .inl (by omega)⟩
      · have hj : 0 < j := by omega
        have := cst_left x y W i (j - 1)
        rw [show j - 1 + 1 = j by omega, if_pos (by omega)] at this
        exact ⟨i, j - 1, a1, by omega, by omega, by omega, .inr ⟨by omega, by omega⟩⟩
/-- A diagonal within the cost's range has a first point. -/
theorem cand_first {x y : List Int} {W : Nat} {p k : Int} (hk2 : k ≤ (W : Int) + p) (hm : k ≤ y.length) (hp : 0 ≤ p) : max k 0 ≤ lfV x y W p k := by
  have h1 := (fr_low x y W p (k - 1)).1
  have h2 := (fr_low x y W (p - 1) (k - 1)).1
  by_cases h : 1 ≤ k
  · obtain ⟨t, ht⟩ : ∃ t : Nat, k - 1 = (t : Int) := ⟨(k - 1).toNat, by omega⟩
    have hc : cst x y W 0 t = t - W := by unfold cst; omega
    unfold lfV
    split
    · have := fr_ge (x := x) (y := y) (W := W) (p := p) (k := k - 1) (i := 0) (j := t) (by omega) (by omega) (by omega) (by omega)
      omega
    · have := fr_ge (x := x) (y := y) (W := W) (p := p - 1) (k := k - 1) (i := 0) (j := t) (by omega) (by omega) (by omega) (by omega)
      omega
  · unfold lfV
    split <;> omega
/-- The step: a run from the farther one of both neighbours' points, brought back into the table. -/
theorem fr_next {x y : List Int} {W : Nat} {p k : Int} (hp : 0 ≤ p) (hk1 : -p ≤ k) (hk2 : k ≤ (W : Int) + p) (hn : -(x.length : Int) ≤ k) (hm : k ≤ y.length) :
    ∃ i s : Nat, (s : Int) = min (min (max (upV x y W p k) (lfV x y W p k)) y.length) (x.length + k) ∧ i ≤ x.length ∧ s ≤ y.length ∧ (s : Int) - i = k ∧ (cst x y W i s : Int) ≤ p ∧ fr x y W p k = ((s + dnN x y i s : Nat) : Int) := by
  have hf := cand_first (x := x) (y := y) (W := W) hk2 hm hp
  by_cases hge : lfV x y W p k ≤ upV x y W p k
  · obtain ⟨i, s, a1, a2, a3, a4, a5⟩ := up_pt (x := x) (y := y) (W := W) (p := p) hn (by omega)
    refine ⟨i, s, by omega, a1, a2, a3, a4, fr_run a1 a2 a3 a4 ?_ ?_⟩ <;> omega
  · by_cases h1 : 1 ≤ lfV x y W p k
    · obtain ⟨i, s, a1, a2, a3, a4, a5⟩ := lf_pt (x := x) (y := y) (W := W) (p := p) hm h1
      refine ⟨i, s, by omega, a1, a2, a3, a4, fr_run a1 a2 a3 a4 ?_ ?_⟩ <;> omega
    · obtain ⟨i, hi⟩ : ∃ i : Nat, -k = (i : Int) := ⟨(-k).toNat, by omega⟩
      have hc : cst x y W i 0 = i := by unfold cst; rw [px_zero_right]; omega
      have := fr_run (x := x) (y := y) (W := W) (p := p) (k := k) (i := i) (s := 0) (by omega) (by omega) (by omega) (by omega) (by omega) (by omega)
      exact ⟨i, 0, by omega, by omega, by omega, by omega, by omega, this⟩
theorem fr_first {x y : List Int} {W : Nat} {p k : Int} (hp : 0 ≤ p) (hk1 : -p ≤ k) (hk2 : k ≤ (W : Int) + p) (hn : -(x.length : Int) ≤ k) (hm : k ≤ y.length) : max k 0 ≤ fr x y W p k := by
  by_cases h : 0 ≤ k
  · obtain ⟨t, ht⟩ : ∃ t : Nat, k = (t : Int) := ⟨k.toNat, by omega⟩
    have hc : cst x y W 0 t = t - W := by unfold cst; omega
    have := fr_ge (x := x) (y := y) (W := W) (p := p) (k := k) (i := 0) (j := t) (by omega) (by omega) (by omega) (by omega)
    omega
  · obtain ⟨i, hi⟩ : ∃ i : Nat, -k = (i : Int) := ⟨(-k).toNat, by omega⟩
    have hc : cst x y W i 0 = i := by unfold cst; rw [px_zero_right]; omega
    have := fr_ge (x := x) (y := y) (W := W) (p := p) (k := k) (i := i) (j := 0) (by omega) (by omega) (by omega) (by omega)
    omega
/-- The end is come to at what the whole costs. -/
theorem fr_end {x y : List Int} {W : Nat} {p : Int} (hW : x.length + W = y.length) : fr x y W p W = y.length ↔ ((x.length - lcs x y : Nat) : Int) ≤ p := by
  have hc : cst x y W x.length y.length = x.length - lcs x y := by unfold cst; rw [px_all]; omega
  constructor
  · intro h
    rcases fr_is x y W p W with e | ⟨i, j, a1, a2, a3, a4, a5⟩
    · omega
    · have ei : i = x.length := by omega
      have ej : j = y.length := by omega
      rw [ei, ej, hc] at a4
      exact a4
  · intro h
    have := fr_ge (x := x) (y := y) (W := W) (p := p) (k := W) (i := x.length) (j := y.length) (Nat.le_refl _) (Nat.le_refl _) (by omega) (by rw [hc]; exact h)
    have := (fr_low x y W p W).2
    omega

end Go.Proofs.Ythpinbmimgojnaa

namespace Go.Proofs.Ythpinbmimgojnaa

/-- A place from which the end is near enough: its own distance and how much the rests differ. -/
def gdB (x y : List Int) (k i j : Nat) : Prop := (i + j - 2 * px x y i j) + apN (x.length - i) (y.length - j) ≤ k
section
variable {x y : List Int} {k i j : Nat}
theorem gd_in (hi : i ≤ x.length) (hj : j ≤ y.length) (h : gdB x y k i j) : inB x.length y.length k i j = true := by
  have h1 := px_le_i x y i j
  have h2 := px_le_j x y i j
  unfold gdB at h
  unfold inB
  unfold apN at *
  exact decide_eq_true (by omega)
theorem gd_start (hk : apN x.length y.length ≤ k) : gdB x y k 0 0 := by
  unfold gdB
  rw [px_zero_left]
  simpa using hk
theorem gd_top (hj : j + 1 ≤ y.length) (h : gdB x y k 0 (j + 1)) : gdB x y k 0 j := by
  unfold gdB at *
  rw [px_zero_left] at *
  unfold apN at *
  omega
theorem gd_left (hi : i + 1 ≤ x.length) (h : gdB x y k (i + 1) 0) : gdB x y k i 0 := by
  unfold gdB at *
  rw [px_zero_right] at *
  unfold apN at *
  omega
/-- Alike: the place ahead on the diagonal is near enough too, and its number is one less. -/
theorem gd_same {u : Int} (hi : i + 1 ≤ x.length) (hj : j + 1 ≤ y.length) (h1 : x[i]? = some u) (h2 : y[j]? = some u) (h : gdB x y k (i + 1) (j + 1)) : gdB x y k i j ∧ px x y (i + 1) (j + 1) = px x y i j + 1 := by
  have e := px_same h1 h2
  have q1 := px_le_i x y i j
  have q2 := px_le_j x y i j
  refine ⟨?_, e⟩
  unfold gdB at *
  rw [e] at h
  unfold apN at *
  omega
/-- Not alike: one of both places ahead has the number, and is near enough. -/
theorem gd_other {u v : Int} (hi : i + 1 ≤ x.length) (hj : j + 1 ≤ y.length) (h1 : x[i]? = some u) (h2 : y[j]? = some v) (hne : u ≠ v) (h : gdB x y k (i + 1) (j + 1)) :
    (gdB x y k i (j + 1) ∧ px x y (i + 1) (j + 1) = px x y i (j + 1)) ∨ (gdB x y k (i + 1) j ∧ px x y (i + 1) (j + 1) = px x y (i + 1) j) := by
  have e := px_other h1 h2 hne
  have q1 := px_le_i x y i (j + 1)
  have q2 := px_le_j x y i (j + 1)
  have q3 := px_le_i x y (i + 1) j
  have q4 := px_le_j x y (i + 1) j
  by_cases hc : px x y (i + 1) j ≤ px x y i (j + 1)
  · left
    have e2 : px x y (i + 1) (j + 1) = px x y i (j + 1) := by omega
    refine ⟨?_, e2⟩
    unfold gdB at *
    rw [e2] at h
    unfold apN at *
    omega
  · right
    have e2 : px x y (i + 1) (j + 1) = px x y (i + 1) j := by omega
    refine ⟨?_, e2⟩
    unfold gdB at *
    rw [e2] at h
    unfold apN at *
    omega
/-- The whole's place is near enough where the distance is. -/
theorem gd_end : gdB x y k x.length y.length ↔ dist x y ≤ k := by
  unfold gdB dist
  rw [px_all]
  unfold apN
  omega

/-- A number that is reckoned within the band: not above the right one, and right where the end is near enough. -/
def BdV (x y : List Int) (k i j v : Nat) : Prop := v ≤ px x y i j ∧ (gdB x y k i j → v = px x y i j)
theorem bdv_top (j : Nat) : BdV x y k 0 j 0 := ⟨Nat.zero_le _, fun _ => (px_zero_left x y j).symm⟩
theorem bdv_left (i : Nat) : BdV x y k i 0 0 := ⟨Nat.zero_le _, fun _ => (px_zero_right x y i).symm⟩
theorem bdv_same {u : Int} {v : Nat} (hi : i + 1 ≤ x.length) (hj : j + 1 ≤ y.length) (h1 : x[i]? = some u) (h2 : y[j]? = some u) (h : BdV x y k i j v) : BdV x y k (i + 1) (j + 1) (v + 1) := by
  have e := px_same h1 h2
  refine ⟨by have := h.1; omega, fun hg => ?_⟩
  rw [h.2 (gd_same hi hj h1 h2 hg).1, e]
/-- Both places ahead, whatever stands for one that is out of the band: not above the right number. -/
theorem bdv_other {u v : Int} {p q : Nat} (hi : i + 1 ≤ x.length) (hj : j + 1 ≤ y.length) (h1 : x[i]? = some u) (h2 : y[j]? = some v) (hne : u ≠ v) (hp : BdV x y k i (j + 1) p) (hq : BdV x y k (i + 1) j q) : BdV x y k (i + 1) (j + 1) (max p q) := by
  have e := px_other h1 h2 hne
  have p1 := hp.1
  have q1 := hq.1
  refine ⟨by omega, fun hg => ?_⟩
  rcases gd_other hi hj h1 h2 hne hg with ⟨g, e2⟩ | ⟨g, e2⟩
  · have := hp.2 g
    omega
  · have := hq.2 g
    omega
/-- Out of the band whatever is not above the right number will do. -/
theorem bdv_out {v : Nat} (hi : i ≤ x.length) (hj : j ≤ y.length) (ho : inB x.length y.length k i j = false) (hv : v ≤ px x y i j) : BdV x y k i j v :=
  ⟨hv, fun hg => absurd (gd_in hi hj hg) (by rw [ho]; simp)⟩
theorem bdv_end {v : Nat} (h : BdV x y k x.length y.length v) : (dist x y ≤ k → v = lcs x y) ∧ (k < dist x y → k < x.length + y.length - 2 * v) := by
  have h1 := h.1
  rw [px_all] at h1
  refine ⟨fun hd => ?_, fun hd => ?_⟩
  · rw [← px_all x y]
    exact h.2 (gd_end.2 hd)
  · unfold dist at hd
    omega

/-- The same as distances: not below the right one, and right where the end is near enough. -/
def BdD (x y : List Int) (k i j : Nat) (d : Int) : Prop := ((i + j : Nat) : Int) - 2 * (px x y i j : Nat) ≤ d ∧ (gdB x y k i j → d = ((i + j : Nat) : Int) - 2 * (px x y i j : Nat))
theorem bdd_top (j : Nat) : BdD x y k 0 j (j : Int) := by
  unfold BdD
  rw [px_zero_left]
  exact ⟨by omega, fun _ => by omega⟩
theorem bdd_left (i : Nat) : BdD x y k i 0 (i : Int) := by
  unfold BdD
  rw [px_zero_right]
  exact ⟨by omega, fun _ => by omega⟩
theorem bdd_same {u : Int} {d : Int} (hi : i + 1 ≤ x.length) (hj : j + 1 ≤ y.length) (h1 : x[i]? = some u) (h2 : y[j]? = some u) (h : BdD x y k i j d) : BdD x y k (i + 1) (j + 1) d := by
  have e := px_same h1 h2
  have h3 := h.1
  refine ⟨by rw [e]; omega, fun hg => ?_⟩
  have := h.2 (gd_same hi hj h1 h2 hg).1
  rw [e]
  omega
theorem bdd_other {u v : Int} {p q : Int} (hi : i + 1 ≤ x.length) (hj : j + 1 ≤ y.length) (h1 : x[i]? = some u) (h2 : y[j]? = some v) (hne : u ≠ v) (hp : BdD x y k i (j + 1) p) (hq : BdD x y k (i + 1) j q) : BdD x y k (i + 1) (j + 1) (min p q + 1) := by
  have e := px_other h1 h2 hne
  have p1 := hp.1
  have q1 := hq.1
  refine ⟨by omega, fun hg => ?_⟩
  rcases gd_other hi hj h1 h2 hne hg with ⟨g, e2⟩ | ⟨g, e2⟩
  · have := hp.2 g
    omega
  · have := hq.2 g
    omega
theorem bdd_out {d : Int} (hi : i ≤ x.length) (hj : j ≤ y.length) (ho : inB x.length y.length k i j = false) (hd : ((i + j : Nat) : Int) - 2 * (px x y i j : Nat) ≤ d) : BdD x y k i j d :=
  ⟨hd, fun hg => absurd (gd_in hi hj hg) (by rw [ho]; simp)⟩
theorem bdd_end {d : Int} (h : BdD x y k x.length y.length d) : (dist x y ≤ k → d = (dist x y : Nat)) ∧ (k < dist x y → (k : Int) < d) := by
  have h1 := h.1
  have h2 := h.2
  rw [px_all] at h1 h2
  have h3 := lcs_le_left x y
  have h4 := lcs_le_right x y
  have e : ((x.length + y.length : Nat) : Int) - 2 * (lcs x y : Nat) = (dist x y : Nat) := by unfold dist; omega
  rw [e] at h1 h2
  exact ⟨fun hd => h2 (gd_end.2 hd), fun hd => by omega⟩
end

/-- The distance is not below the lengths' difference, and has its parity. -/
theorem dist_apart (x y : List Int) : apN x.length y.length ≤ dist x y := by
  have h1 := lcs_le_left x y
  have h2 := lcs_le_right x y
  unfold apN dist
  omega
theorem dist_parity (x y : List Int) : ∃ q, dist x y = apN x.length y.length + 2 * q := by
  have h1 := lcs_le_left x y
  have h2 := lcs_le_right x y
  refine ⟨min x.length y.length - lcs x y, ?_⟩
  unfold apN dist
  omega

/-- The bounds that are tried, and what they cost together. -/
def bndS (f : Nat → Nat) (d k : Nat) : Nat := if k < d then f k + bndS f d (2 * k + 1) else f k
  termination_by d - k
theorem bndS_last {f : Nat → Nat} {d k : Nat} (h : d ≤ k) : bndS f d k = f k := by
  unfold bndS
  rw [if_neg (by omega)]
theorem bndS_more {f : Nat → Nat} {d k : Nat} (h : k < d) : bndS f d k = f k + bndS f d (2 * k + 1) := by
  rw [bndS, if_pos h]
/-- Each bound that is tried below the distance: at most so many all in all. -/
theorem bndS_le {f : Nat → Nat} {d M : Nat} (hf : ∀ k, f k ≤ M) : ∀ c k, d - k ≤ c → bndS f d k ≤ (c + 1) * M
  | 0, k, h => by
    rw [bndS_last (by omega)]
    have := hf k
    omega
  | c + 1, k, h => by
    by_cases hk : k < d
    · rw [bndS_more hk]
      have h1 := bndS_le (d := d) hf c (2 * k + 1) (by omega)
      have h2 := hf k
      rw [Nat.add_mul (c + 1) 1, Nat.one_mul]
      omega
    · rw [bndS_last (by omega)]
      have h2 := hf k
      rw [Nat.add_mul (c + 1) 1, Nat.one_mul]
      omega

end Go.Proofs.Ythpinbmimgojnaa

namespace Go.Proofs.Ythpinbmimgojnaa
section
variable {x y : List Int} {k i j : Nat}
/-- Whichever place ahead has the number is near enough. -/
theorem gd_up (h : gdB x y k (i + 1) (j + 1)) (e : px x y i (j + 1) = px x y (i + 1) (j + 1)) (hi : i + 1 ≤ x.length) (hj : j + 1 ≤ y.length) : gdB x y k i (j + 1) := by
  have q1 := px_le_i x y i (j + 1)
  have q2 := px_le_j x y i (j + 1)
  unfold gdB at *
  rw [← e] at h
  unfold apN at *
  omega
theorem gd_side (h : gdB x y k (i + 1) (j + 1)) (e : px x y (i + 1) j = px x y (i + 1) (j + 1)) (hi : i + 1 ≤ x.length) (hj : j + 1 ≤ y.length) : gdB x y k (i + 1) j := by
  have q1 := px_le_i x y (i + 1) j
  have q2 := px_le_j x y (i + 1) j
  unfold gdB at *
  rw [← e] at h
  unfold apN at *
  omega
/-- A step back in a table of lengths: the greater one of both leads to a place that is near enough. -/
theorem bdv_up {u v : Int} {p q : Nat} (hi : i + 1 ≤ x.length) (hj : j + 1 ≤ y.length) (h1 : x[i]? = some u) (h2 : y[j]? = some v) (hne : u ≠ v) (h : gdB x y k (i + 1) (j + 1))
    (hp : BdV x y k i (j + 1) p) (hq : BdV x y k (i + 1) j q) (hle : q ≤ p) : gdB x y k i (j + 1) ∧ px x y (i + 1) (j + 1) = px x y i (j + 1) := by
  have e := px_other h1 h2 hne
  have p1 := hp.1
  have q1 := hq.1
  have e2 : px x y i (j + 1) = px x y (i + 1) (j + 1) := by
    rcases gd_other hi hj h1 h2 hne h with ⟨g, e2⟩ | ⟨g, e2⟩
    · exact e2.symm
    · have := hq.2 g
      omega
  exact ⟨gd_up h e2 hi hj, e2.symm⟩
theorem bdv_side {u v : Int} {p q : Nat} (hi : i + 1 ≤ x.length) (hj : j + 1 ≤ y.length) (h1 : x[i]? = some u) (h2 : y[j]? = some v) (hne : u ≠ v) (h : gdB x y k (i + 1) (j + 1))
    (hp : BdV x y k i (j + 1) p) (hq : BdV x y k (i + 1) j q) (hle : p ≤ q) : gdB x y k (i + 1) j ∧ px x y (i + 1) (j + 1) = px x y (i + 1) j := by
  have e := px_other h1 h2 hne
  have p1 := hp.1
  have q1 := hq.1
  have e2 : px x y (i + 1) j = px x y (i + 1) (j + 1) := by
    rcases gd_other hi hj h1 h2 hne h with ⟨g, e2⟩ | ⟨g, e2⟩
    · have := hp.2 g
      omega
    · exact e2.symm
  exact ⟨gd_side h e2 hi hj, e2.symm⟩
/-- A step back in a table of distances: the lesser one of both. -/
theorem bdd_up {u v p q : Int} (hi : i + 1 ≤ x.length) (hj : j + 1 ≤ y.length) (h1 : x[i]? = some u) (h2 : y[j]? = some v) (hne : u ≠ v) (h : gdB x y k (i + 1) (j + 1))
    (hp : BdD x y k i (j + 1) p) (hq : BdD x y k (i + 1) j q) (hle : p ≤ q) : gdB x y k i (j + 1) ∧ px x y (i + 1) (j + 1) = px x y i (j + 1) := by
  have e := px_other h1 h2 hne
  have p1 := hp.1
  have q1 := hq.1
  have e2 : px x y i (j + 1) = px x y (i + 1) (j + 1) := by
    rcases gd_other hi hj h1 h2 hne h with ⟨g, e2⟩ | ⟨g, e2⟩
    · exact e2.symm
    · have := hq.2 g
      omega
  exact ⟨gd_up h e2 hi hj, e2.symm⟩
theorem bdd_side {u v p q : Int} (hi : i + 1 ≤ x.length) (hj : j + 1 ≤ y.length) (h1 : x[i]? = some u) (h2 : y[j]? = some v) (hne : u ≠ v) (h : gdB x y k (i + 1) (j + 1))
    (hp : BdD x y k i (j + 1) p) (hq : BdD x y k (i + 1) j q) (hle : q ≤ p) : gdB x y k (i + 1) j ∧ px x y (i + 1) (j + 1) = px x y (i + 1) j := by
  have e := px_other h1 h2 hne
  have p1 := hp.1
  have q1 := hq.1
  have e2 : px x y (i + 1) j = px x y (i + 1) (j + 1) := by
    rcases gd_other hi hj h1 h2 hne h with ⟨g, e2⟩ | ⟨g, e2⟩
    · have := hp.2 g
      omega
    · exact e2.symm
  exact ⟨gd_side h e2 hi hj, e2.symm⟩
/-- Where one of both places is out of the band, the other one has the number and is near enough. -/
theorem gd_up_only {u v : Int} (hi : i + 1 ≤ x.length) (hj : j + 1 ≤ y.length) (h1 : x[i]? = some u) (h2 : y[j]? = some v) (hne : u ≠ v) (h : gdB x y k (i + 1) (j + 1))
    (ho : inB x.length y.length k (i + 1) j = false) : gdB x y k i (j + 1) ∧ px x y (i + 1) (j + 1) = px x y i (j + 1) := by
  rcases gd_other hi hj h1 h2 hne h with g | ⟨g, _⟩
  · exact g
  · exact absurd (gd_in hi (Nat.le_of_succ_le hj) g) (by rw [ho]; simp)
theorem gd_side_only {u v : Int} (hi : i + 1 ≤ x.length) (hj : j + 1 ≤ y.length) (h1 : x[i]? = some u) (h2 : y[j]? = some v) (hne : u ≠ v) (h : gdB x y k (i + 1) (j + 1))
    (ho : inB x.length y.length k i (j + 1) = false) : gdB x y k (i + 1) j ∧ px x y (i + 1) (j + 1) = px x y (i + 1) j := by
  rcases gd_other hi hj h1 h2 hne h with ⟨g, _⟩ | g
  · exact absurd (gd_in (Nat.le_of_succ_le hi) hj g) (by rw [ho]; simp)
  · exact g
end
end Go.Proofs.Ythpinbmimgojnaa

namespace Go.Proofs.Ythpinbmimgojnaa

/-- How many diagonals the band has on each side of that of the beginnings. -/
def sdQ (n m k : Nat) : Nat := min ((k - apN n m) / 2) (min n m)
def sdL (n m k : Nat) : Nat := (n - min n m) + sdQ n m k
def sdH (n m k : Nat) : Nat := (m - min n m) + sdQ n m k
theorem inB_side {n m k i j : Nat} (hW : apN n m ≤ k) (hi : i ≤ n) (hj : j ≤ m) : inB n m k i j = decide (i ≤ j + sdL n m k ∧ j ≤ i + sdH n m k) := by
  rw [inB_seg hW hi hj]
  unfold sdL sdH sdQ
  generalize (k - apN n m) / 2 = q
  simp only [decide_eq_decide]
  omega
theorem sd_le (n m k : Nat) : sdL n m k ≤ n ∧ sdH n m k ≤ m ∧ n ≤ m + sdL n m k ∧ m ≤ n + sdH n m k := by
  unfold sdL sdH sdQ
  omega

section
variable {x y : List Int} {k L H i J : Nat} {g : Nat → Int} {f : Int → Bool}
/-- A row of the strip: at place j + L + 1 - i the cost of (i, j). -/
structure RwI (x y : List Int) (k L H i : Nat) (g : Nat → Int) : Prop where
  own : ∀ j, j ≤ y.length → i ≤ j + L → j ≤ i + H → BdD x y k i j (g (j + L + 1 - i))
  lo : ∀ t, t < L + H + 3 → 0 ≤ g t ∧ g t ≤ ((x.length + y.length + 1 + i : Nat) : Int)
  m0 : g 0 = ((x.length + y.length + 1 : Nat) : Int)
  m1 : g (L + H + 2) = ((x.length + y.length + 1 : Nat) : Int)
/-- While row i + 1 is reckoned: places below J are new, those from J - 1 on are still row i's. -/
structure MdI (x y : List Int) (k L H i J : Nat) (g : Nat → Int) : Prop where
  new : ∀ j, j < J → j ≤ y.length → i + 1 ≤ j + L → j ≤ i + 1 + H → BdD x y k (i + 1) j (g (j + L - i))
  old : ∀ j, J ≤ j + 1 → j ≤ y.length → i ≤ j + L → j ≤ i + H → BdD x y k i j (g (j + L + 1 - i))
  lo : ∀ t, t < L + H + 3 → 0 ≤ g t ∧ g t ≤ ((x.length + y.length + 1 + (i + 1) : Nat) : Int) ∧ (J + L - i ≤ t → g t ≤ ((x.length + y.length + 1 + i : Nat) : Int))
  m0 : g 0 = ((x.length + y.length + 1 : Nat) : Int)
  m1 : g (L + H + 2) = ((x.length + y.length + 1 : Nat) : Int)
/-- The strip's first row. -/
theorem rw_start {g : Nat → Int} (hH : H ≤ y.length) (hg : ∀ t, t < L + H + 3 → g t = if L + 1 ≤ t ∧ t ≤ L + H + 1 then ((t - (L + 1) : Nat) : Int) else ((x.length + y.length + 1 : Nat) : Int)) : RwI x y k L H 0 g := by
  refine ⟨fun j h1 h2 h3 => ?_, fun t ht => ?_, ?_, ?_⟩
  · rw [hg _ (by omega), if_pos (by omega), show j + L + 1 - 0 - (L + 1) = j by omega]
    exact bdd_top j
  · rw [hg t ht]
    split <;> omega
  · rw [hg _ (by omega), if_neg (by omega)]
  · rw [hg _ (by omega), if_neg (by omega)]
/-- The first place of a row that is not 0, and one behind the last one. -/
def fsJ (L i : Nat) : Nat := max (i - L) 1
def lsJ (H m i : Nat) : Nat := min (i + H) m + 1
theorem fs_ls {n m L H i : Nat} (h1 : n ≤ m + L) (hi : i + 1 ≤ n) : fsJ L (i + 1) ≤ lsJ H m (i + 1) := by
  unfold fsJ lsJ
  omega
theorem md_start {g' : Nat → Int} (h : RwI x y k L H i g) (hi : i + 1 ≤ x.length) (hg : ∀ t, t < L + H + 3 → g' t = if i + 1 ≤ L ∧ t = L - i then ((i + 1 : Nat) : Int) else g t) : MdI x y k L H i (fsJ L (i + 1)) g' := by
  unfold fsJ
  refine ⟨fun j h1 h2 h3 h4 => ?_, fun j h1 h2 h3 h4 => ?_, fun t ht => ?_, ?_, ?_⟩
  · obtain rfl : j = 0 := by omega
    rw [hg _ (by omega), if_pos (by omega)]
    exact bdd_left (i + 1)
  · rw [hg _ (by omega), if_neg (by omega)]
    exact h.own j h2 h3 h4
  · rw [hg t ht]
    have := h.lo t ht
    split
    · refine ⟨by omega, by omega, fun q => by omega⟩
    · refine ⟨by omega, by omega, fun q => by omega⟩
  · rw [hg _ (by omega), if_neg (by omega)]
    exact h.m0
  · rw [hg _ (by omega), if_neg (by omega)]
    exact h.m1
/-- What stands ahead in the row, and in the row above. -/
theorem md_left (h : MdI x y k L H i (J + 1) g) (hw : apN x.length y.length ≤ k) (hL : L = sdL x.length y.length k) (hH : H = sdH x.length y.length k) (hi : i + 1 ≤ x.length) (hJ : J + 1 ≤ y.length) (h1 : i + 1 ≤ J + 1 + L) (h2 : J + 1 ≤ i + 1 + H) : BdD x y k (i + 1) J (g (J + L - i)) := by
  by_cases e : i + 1 ≤ J + L
  · exact h.new J (by omega) (by omega) e (by omega)
  · rw [show J + L - i = 0 by omega, h.m0]
    refine bdd_out hi (by omega) ?_ (by omega)
    rw [inB_side hw hi (by omega), ← hL, ← hH]
    exact decide_eq_false (by omega)
theorem md_up (h : MdI x y k L H i (J + 1) g) (hw : apN x.length y.length ≤ k) (hL : L = sdL x.length y.length k) (hH : H = sdH x.length y.length k) (hi : i + 1 ≤ x.length) (hJ : J + 1 ≤ y.length) (h1 : i + 1 ≤ J + 1 + L) (h2 : J + 1 ≤ i + 1 + H) : BdD x y k i (J + 1) (g (J + L + 2 - i)) := by
  by_cases e : J + 1 ≤ i + H
  · rw [show J + L + 2 - i = J + 1 + L + 1 - i by omega]
    exact h.old (J + 1) (by omega) hJ (by omega) e
  · rw [show J + L + 2 - i = L + H + 2 by omega, h.m1]
    refine bdd_out (by omega) hJ ?_ (by omega)
    rw [inB_side hw (by omega) hJ, ← hL, ← hH]
    exact decide_eq_false (by omega)
/-- The cost of a place by those beside it: here, ahead in the row, above. -/
def bnV (u v here left up : Int) : Int := if v = u then here else min left up + 1
theorem md_step {u v : Int} {g' : Nat → Int} (h : MdI x y k L H i (J + 1) g) (hw : apN x.length y.length ≤ k) (hL : L = sdL x.length y.length k) (hH : H = sdH x.length y.length k) (hi : i + 1 ≤ x.length) (hJ : J + 1 ≤ y.length) (h1 : i + 1 ≤ J + 1 + L) (h2 : J + 1 ≤ i + 1 + H)
    (hu : x[i]? = some u) (hv : y[J]? = some v) (hg : ∀ t, t < L + H + 3 → g' t = if t = J + 1 + L - i then bnV u v (g (J + 1 + L - i)) (g (J + L - i)) (g (J + L + 2 - i)) else g t) : MdI x y k L H i (J + 2) g' := by
  have a1 := md_left h hw hL hH hi hJ h1 h2
  have a2 := md_up h hw hL hH hi hJ h1 h2
  have a3 := h.old J (by omega) (by omega) (by omega) (by omega)
  rw [show J + L + 1 - i = J + 1 + L - i by omega] at a3
  refine ⟨fun j q1 q2 q3 q4 => ?_, fun j q1 q2 q3 q4 => ?_, fun t ht => ?_, ?_, ?_⟩
  · by_cases e : j = J + 1
    · subst e
      rw [hg _ (by omega), if_pos (by omega)]
      unfold bnV
      by_cases c : v = u
      · rw [if_pos c]
        subst c
        exact bdd_same hi hJ hu hv a3
      · rw [if_neg c, Int.min_comm]
        exact bdd_other hi hJ hu hv (Ne.symm c) a2 a1
    · rw [hg _ (by omega), if_neg (by omega)]
      exact h.new j (by omega) q2 q3 q4
  · rw [hg _ (by omega), if_neg (by omega)]
    exact h.old j (by omega) q2 q3 q4
  · rw [hg t ht]
    have l0 := h.lo t ht
    have l1 := h.lo (J + 1 + L - i) (by omega)
    have l2 := h.lo (J + L - i) (by omega)
    have l3 := h.lo (J + L + 2 - i) (by omega)
    have l4 := l1.2.2 (by omega)
    have l5 := l3.2.2 (by omega)
    by_cases e : t = J + 1 + L - i
    · rw [if_pos e]
      refine ⟨?_, ?_, fun q => absurd q (by omega)⟩ <;> (unfold bnV; split <;> omega)
    · rw [if_neg e]
      exact ⟨l0.1, l0.2.1, fun q => l0.2.2 (by omega)⟩
  · rw [hg _ (by omega), if_neg (by omega)]
    exact h.m0
  · rw [hg _ (by omega), if_neg (by omega)]
    exact h.m1
theorem md_end (h : MdI x y k L H i (lsJ H y.length (i + 1)) g) : RwI x y k L H (i + 1) g := by
  refine ⟨fun j q1 q2 q3 => ?_, fun t ht => ⟨(h.lo t ht).1, (h.lo t ht).2.1⟩, h.m0, h.m1⟩
  rw [show j + L + 1 - (i + 1) = j + L - i by omega]
  exact h.new j (by unfold lsJ; omega) q1 q2 q3

/-- What the bits of a row say of the places below J: does the way lead along the row? -/
def WyF (x y : List Int) (k L H i J : Nat) (f : Int → Bool) : Prop :=
  ∀ j u v, j + 1 < J → j + 1 ≤ y.length → i + 1 ≤ j + 1 + L → j + 1 ≤ i + 1 + H → x[i]? = some u → y[j]? = some v → u ≠ v → gdB x y k (i + 1) (j + 1) →
    (f ((j + 1 : Nat) : Int) = true → gdB x y k (i + 1) j ∧ px x y (i + 1) (j + 1) = px x y (i + 1) j) ∧ (f ((j + 1 : Nat) : Int) = false → gdB x y k i (j + 1) ∧ px x y (i + 1) (j + 1) = px x y i (j + 1))
theorem wy_start : WyF x y k L H i (fsJ L (i + 1)) f := fun j u v h1 h2 h3 => by
  unfold fsJ at h1
  omega
theorem wy_step {f' : Int → Bool} (h : MdI x y k L H i (J + 1) g) (hf : WyF x y k L H i (J + 1) f) (hw : apN x.length y.length ≤ k) (hL : L = sdL x.length y.length k) (hH : H = sdH x.length y.length k) (hi : i + 1 ≤ x.length) (hJ : J + 1 ≤ y.length) (h1 : i + 1 ≤ J + 1 + L) (h2 : J + 1 ≤ i + 1 + H)
    (e : ∀ κ, f' κ = if κ = ((J + 1 : Nat) : Int) then decide (g (J + L - i) < g (J + L + 2 - i)) else f κ) : WyF x y k L H i (J + 2) f' := fun j u v q1 q2 q3 q4 hu hv hne hg => by
  rw [e]
  by_cases c : j = J
  · subst c
    rw [if_pos rfl]
    have a1 := md_left h hw hL hH hi hJ h1 h2
    have a2 := md_up h hw hL hH hi hJ h1 h2
    refine ⟨fun b => ?_, fun b => ?_⟩
    · exact bdd_side hi hJ hu hv hne hg a2 a1 (by have := of_decide_eq_true b; omega)
    · exact bdd_up hi hJ hu hv hne hg a2 a1 (by have := of_decide_eq_false b; omega)
  · rw [if_neg (by omega)]
    exact hf j u v (by omega) q2 q3 q4 hu hv hne hg
end
end Go.Proofs.Ythpinbmimgojnaa

namespace Go.Proofs.Ythpinbmimgojnaa
open Go.RowKit

/-! ### Turned -/
/-- The numbers from place r on, turned round. -/
def TuRel (l : List Int) (w : World) (v i : Value) (wr : World) : Prop :=
  (∃ r t : Nat, r + t + 1 = l.length ∧ i = .int .i64 (r : Int) ∧ wr.ownsRow w.heap.size 3 1 v t (iv (l.drop (r + 1)).reverse) ∧ Below w.heap.size w wr) ∨ (i = .int .i64 (-1) ∧ wr.ownsRow w.heap.size 3 1 v l.length (iv l.reverse) ∧ Below w.heap.size w wr)
theorem tu_start {l : List Int} {w : World} {x : Int} (hx : x = (l.length : Int) - 1) : TuRel l w (.slice none 0 0) (.int .i64 x) w := by
  subst hx
  cases h : l.length with
  | zero =>
    have := List.eq_nil_of_length_eq_zero h
    subst this
    exact .inr ⟨by simp, by simpa [iv] using World.ownsRow_nil w _ _ _, Below.refl _ _⟩
  | succ n => exact .inl ⟨n, 0, by omega, by congr 1; omega, by rw [List.drop_of_length_le (by omega)]; exact World.ownsRow_nil _ _ _ _, Below.refl _ _⟩
theorem tu_next {l : List Int} {w wr : World} {v : Value} {r t : Nat} {x y : Int} (hr : r + t + 1 = l.length) (hx : l[r]? = some x) (hy : y = (r : Int) - 1) (h : wr.ownsRow w.heap.size 3 1 v (t + 1) (iv (l.drop (r + 1)).reverse ++ [.int .i64 x])) (hb : Below w.heap.size w wr) : TuRel l w v (.int .i64 y) wr := by
  subst hy
  have e : iv (l.drop r).reverse = iv (l.drop (r + 1)).reverse ++ [.int .i64 x] := by
    obtain ⟨g, e⟩ := List.getElem?_eq_some_iff.1 hx
    rw [List.drop_eq_getElem_cons g, e, List.reverse_cons, iv_append]
    rfl
  cases r with
  | zero => exact .inr ⟨by simp, by rw [← hr, show 0 + t + 1 = t + 1 by omega]; rw [List.drop_zero] at e; rw [e]; exact h, hb⟩
  | succ r => exact .inl ⟨r, t + 1, by omega, by congr 1; omega, by rw [e]; exact h, hb⟩

/-! ### Dist -/
set_option maxHeartbeats 800000 in
theorem rdist_any (A B : Option Addr) (n m c d : Nat) (a b : List Int) (w : World) (hn : a.length = n) (hm : b.length = m) (hb : n ≤ 1048576) (hb' : m ≤ 1048576) (h1 : Row w A (iv a)) (h2 : Row w B (iv b)) :
    Calls Try.prog 15 #[.slice A n c, .slice B m d] w fun e w' => e = .returned (.int .i64 (dist a b : Nat)) ∧ Below w.heap.size w w' := by
  have l1 := lcs_le_left a b
  have l2 := lcs_le_right a b
  have HD := Lib.hid (dist_int a b)
  rw [hn, hm] at HD
  rw [hn] at l1
  rw [hm] at l2
  have C := Lib.hid (len_any A B n m c d a b w hn hm hb hb' h1 h2)
  clear h1 h2 hn hm
  generalize lcs a b = L at *
  generalize dist a b = D at *
  go_enter Try.func15, Try.ntmps15
  go_wp2_with fail
  refine C.out.mono ?_
  rintro e w1 ⟨rfl, hB⟩
  go_wp2_with fail
  go_ret
  exact ⟨ret_int (by have := HD.out; omega), hB⟩

/-! ### Picked -/
def bvs (l : List Bool) : List Value := l.map Value.bool
theorem bvs_length (l : List Bool) : (bvs l).length = l.length := by simp [bvs]
theorem Row.bool {w : World} {A : Option Addr} {l : List Bool} (h : Row w A (bvs l)) {k : Nat} (hk : k < l.length) : ∃ g o, A = some ⟨g, o, none⟩ ∧ w.cell? ⟨g, o + k, none⟩ = some (.bool l[k]) := by
  obtain ⟨g, o, e, hc⟩ := h.at_ k (by simpa [bvs] using hk)
  exact ⟨g, o, e, by rw [hc]; simp [bvs]⟩
/-- Those whose bits are 1. -/
def pick : List Int → List Bool → List Int
  | x :: a, true :: s => x :: pick a s
  | _ :: a, false :: s => pick a s
  | _, _ => []
theorem pick_sub : ∀ (a : List Int) (s : List Bool), (pick a s).Sublist a
  | [], _ => List.Sublist.refl _
  | _ :: _, [] => List.nil_sublist _
  | x :: a, true :: s => (pick_sub a s).cons_cons x
  | x :: a, false :: s => (pick_sub a s).cons x
theorem pick_nil (a : List Int) : pick a [] = [] := by cases a <;> rfl
theorem pick_step : ∀ {a : List Int} {s : List Bool} {k : Nat} {x : Int} {t : Bool}, a[k]? = some x → s[k]? = some t → pick (a.take (k + 1)) (s.take (k + 1)) = pick (a.take k) (s.take k) ++ (if t then [x] else [])
  | y :: a, u :: s, 0, x, t, h1, h2 => by
    simp at h1 h2
    subst h1
    subst h2
    cases u <;> simp [pick, pick_nil]
  | y :: a, u :: s, k + 1, x, t, h1, h2 => by
    have ih := pick_step (a := a) (s := s) (k := k) (by simpa using h1) (by simpa using h2)
    simp only [List.take_succ_cons]
    cases u
    · simpa [pick] using ih
    · simpa [pick] using ih
  | [], _, _, _, _, h1, _ => by simp at h1
  | _ :: _, [], _, _, _, _, h2 => by simp at h2
theorem pick_take (a : List Int) (s : List Bool) {k : Nat} (h : a.length ≤ k ∨ s.length ≤ k) : pick (a.take k) (s.take k) = pick a s := by
  induction a generalizing s k with
  | nil => simp [pick]
  | cons x a ih =>
    cases s with
    | nil => rw [List.take_nil, pick_nil, pick_nil]
    | cons t s =>
      cases k with
      | zero => simp at h
      | succ k =>
        have := ih s (k := k) (by simpa using h)
        simp only [List.take_succ_cons]
        cases t
        · simpa [pick] using this
        · simpa [pick] using this

def PkRel (a : List Int) (s : List Bool) (w : World) (v i : Value) (wr : World) : Prop :=
  ∃ k t : Nat, k ≤ a.length ∧ t ≤ k ∧ i = .int .i64 (k : Int) ∧ Hid ((pick (a.take k) (s.take k)).length = t) ∧ wr.ownsRow w.heap.size 3 1 v t (iv (pick (a.take k) (s.take k))) ∧ Below w.heap.size w wr
theorem pk_skip {a : List Int} {s : List Bool} {w wr : World} {v : Value} {k t : Nat} {x : Int} (hk : k < a.length) (ht : t ≤ k) (h1 : a[k]? = some x) (h2 : s[k]? = some false) (hl : (pick (a.take k) (s.take k)).length = t) (h : wr.ownsRow w.heap.size 3 1 v t (iv (pick (a.take k) (s.take k)))) (hb : Below w.heap.size w wr) : PkRel a s w v (.int .i64 (k + 1 : Nat)) wr := by
  have e := pick_step h1 h2
  simp only [Bool.false_eq_true, if_false, List.append_nil] at e
  exact ⟨k + 1, t, by omega, by omega, rfl, by show _ = _; rw [e, hl], by rw [e]; exact h, hb⟩
theorem pk_put {a : List Int} {s : List Bool} {w wr : World} {v : Value} {k t : Nat} {x : Int} (hk : k < a.length) (ht : t ≤ k) (h1 : a[k]? = some x) (h2 : s[k]? = some true) (hl : (pick (a.take k) (s.take k)).length = t) (h : wr.ownsRow w.heap.size 3 1 v (t + 1) (iv (pick (a.take k) (s.take k)) ++ [.int .i64 x])) (hb : Below w.heap.size w wr) : PkRel a s w v (.int .i64 (k + 1 : Nat)) wr := by
  have e := pick_step h1 h2
  simp only [if_true] at e
  exact ⟨k + 1, t + 1, by omega, by omega, rfl, by show _ = _; rw [e, List.length_append, hl]; rfl, by rw [e, iv_append]; exact h, hb⟩
theorem pk_done {a : List Int} {s : List Bool} {w wr : World} {v : Value} {k t : Nat} (hk : a.length ≤ k ∨ s.length ≤ k) (hl : (pick (a.take k) (s.take k)).length = t) (h : wr.ownsRow w.heap.size 3 1 v t (iv (pick (a.take k) (s.take k)))) (hb : Below w.heap.size w wr) : MadeI (pick a s) w (.returned v) wr := by
  rw [pick_take a s hk] at h hl
  subst hl
  exact ⟨v, rfl, h, hb⟩

end Go.Proofs.Ythpinbmimgojnaa
