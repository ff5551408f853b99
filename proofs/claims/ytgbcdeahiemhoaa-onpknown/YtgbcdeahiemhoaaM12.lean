/-
  Words and contracts that the proof leans on.
-/
import Derived.Test.YtgbcdeahiemhoaaM10
import Derived.Test.YtgbcdeahiemhoaaM11
import Derived.Test.YtgbcdeahiemhoaaM2
import Derived.Test.YtgbcdeahiemhoaaM1
namespace Go.Proofs.Ytgbcdeahiemhoaa
open Go.RowKit

/-- L of what is ahead of r and c. -/
def px (a b : List Int) (r c : Nat) : Nat := lcs (a.take r) (b.take c)
theorem px_zero_left (a b : List Int) (c : Nat) : px a b 0 c = 0 := by unfold px; rw [List.take_zero, lcs_nil_left]
theorem px_zero_right (a b : List Int) (r : Nat) : px a b r 0 = 0 := by unfold px; rw [List.take_zero, lcs_nil_right]
theorem px_all (a b : List Int) : px a b a.length b.length = lcs a b := by unfold px; rw [List.take_length, List.take_length]
theorem px_le (a b : List Int) (r c : Nat) : px a b r c ≤ a.length := Nat.le_trans (lcs_le_left _ _) (by rw [List.length_take]; omega)
theorem take_snoc {a : List Int} {r : Nat} {x : Int} (h : a[r]? = some x) : a.take (r + 1) = a.take r ++ [x] := by
  obtain ⟨g, e⟩ := List.getElem?_eq_some_iff.1 h
  rw [List.take_succ_eq_append_getElem g, e]
theorem px_same {a b : List Int} {r c : Nat} {x : Int} (h1 : a[r]? = some x) (h2 : b[c]? = some x) : px a b (r + 1) (c + 1) = px a b r c + 1 := by
  unfold px
  rw [take_snoc h1, take_snoc h2, lcs_back]
  rfl
theorem lcs_snoc_other {x y : Int} (h : x ≠ y) (a b : List Int) : lcs (a ++ [x]) (b ++ [y]) = max (lcs a (b ++ [y])) (lcs (a ++ [x]) b) := by
  rw [← lcs_rev (a ++ [x]) (b ++ [y]), ← lcs_rev a (b ++ [y]), ← lcs_rev (a ++ [x]) b]
  simp only [List.reverse_append, List.reverse_cons, List.reverse_nil, List.nil_append, List.singleton_append]
  exact lcs_other h _ _
theorem px_other {a b : List Int} {r c : Nat} {x y : Int} (h1 : a[r]? = some x) (h2 : b[c]? = some y) (hne : x ≠ y) : px a b (r + 1) (c + 1) = max (px a b r (c + 1)) (px a b (r + 1) c) := by
  unfold px
  rw [take_snoc h1, take_snoc h2, lcs_snoc_other hne]

/-- A row from the row below it. -/
theorem fillB_upto {a b : List Int} {i : Nat} {x : Int} {G F : Nat → Int} (hx : a[i]? = some x) (hn : a.length ≤ 1048576) (hG : ∀ c, c ≤ b.length → G c = (lx a b (i + 1) c : Nat)) (hF : F b.length = 0) :
    ∀ k, k ≤ b.length → ∀ c, b.length - k ≤ c → c ≤ b.length → (backs b k).foldl (stepB x G) F c = (lx a b i c : Nat) := by
  intro k
  induction k with
  | zero =>
    intro _ c h1 h2
    obtain rfl : c = b.length := by omega
    rw [lx_end_right a b i _ (Nat.le_refl _)]
    exact hF
  | succ k ih =>
    intro hk c h1 h2
    obtain ⟨j, hj⟩ : ∃ j, j + k + 1 = b.length := ⟨b.length - k - 1, by omega⟩
    have hjl : j < b.length := by omega
    have hy : b[j]? = some b[j] := List.getElem?_eq_getElem hjl
    generalize b[j] = y at *
    rw [backs_succ b hj hy, List.foldl_append, List.foldl_cons, List.foldl_nil]
    have ih' := ih (by omega)
    show (if c = j then (if x = y then IntKind.i64.wrap (G (j + 1) + 1) else (if G j < (backs b k).foldl (stepB x G) F (j + 1) then (backs b k).foldl (stepB x G) F (j + 1) else G j)) else (backs b k).foldl (stepB x G) F c) = _
    by_cases e : c = j
    · subst e
      rw [if_pos rfl]
      by_cases exy : x = y
      · subst exy
        rw [if_pos rfl, hG _ (by omega), lx_same hx hy, IntWalk.i64_in _ (by have := lx_le a b (i + 1) (c + 1); omega)]
        omega
      · rw [if_neg exy, hG c (by omega), ih' (c + 1) (by omega) (by omega), lx_other hx hy exy]
        split <;> omega
    · rw [if_neg e]
      exact ih' c (by omega) h2
theorem fillB_row {a b : List Int} {i : Nat} {x : Int} {G F : Nat → Int} (hx : a[i]? = some x) (hn : a.length ≤ 1048576) (hG : ∀ c, c ≤ b.length → G c = (lx a b (i + 1) c : Nat)) (hF : F b.length = 0) (c : Nat) (hc : c ≤ b.length) : fillB x b G F c = (lx a b i c : Nat) :=
  fillB_upto hx hn hG hF b.length (Nat.le_refl _) c (by omega) hc

/-- A row from the row above it. -/
theorem fillA_upto {a b : List Int} {i : Nat} {x : Int} {G F : Nat → Int} (hx : a[i]? = some x) (hn : a.length ≤ 1048576) (hG : ∀ c, c ≤ b.length → G c = (px a b i c : Nat)) (hF : F 0 = 0) :
    ∀ k, k ≤ b.length → ∀ c, c ≤ k → fillA x b G F k c = (px a b (i + 1) c : Nat) := by
  intro k
  induction k with
  | zero =>
    intro _ c h1
    obtain rfl : c = 0 := by omega
    rw [px_zero_right]
    exact hF
  | succ k ih =>
    intro hk c h1
    have hkl : k < b.length := by omega
    have hy : b[k]? = some b[k] := List.getElem?_eq_getElem hkl
    generalize b[k] = y at *
    have ih' := ih (by omega)
    show (if c = k + 1 then (if x = (b[k]?.getD 0) then IntKind.i64.wrap (G k + 1) else (if G (k + 1) < fillA x b G F k k then fillA x b G F k k else G (k + 1))) else fillA x b G F k c) = _
    rw [hy, Option.getD_some]
    by_cases e : c = k + 1
    · subst e
      rw [if_pos rfl]
      by_cases exy : x = y
      · subst exy
        rw [if_pos rfl, hG _ (by omega), px_same hx hy, IntWalk.i64_in _ (by have := px_le a b i k; omega)]
        omega
      · rw [if_neg exy, hG _ (by omega), ih' k (Nat.le_refl _), px_other hx hy exy]
        split <;> omega
    · rw [if_neg e]
      exact ih' c (by omega)
theorem fillA_row {a b : List Int} {i : Nat} {x : Int} {G F : Nat → Int} (hx : a[i]? = some x) (hn : a.length ≤ 1048576) (hG : ∀ c, c ≤ b.length → G c = (px a b i c : Nat)) (hF : F 0 = 0) (c : Nat) (hc : c ≤ b.length) : fillA x b G F b.length c = (px a b (i + 1) c : Nat) :=
  fillA_upto hx hn hG hF b.length (Nat.le_refl _) c hc

/-- Ahead and behind together are no more, -/
theorem px_lx_le (a b : List Int) (i j : Nat) : px a b i j + lx a b i j ≤ lcs a b := by
  obtain ⟨s, h1, h2, h3⟩ := lcs_has (a.take i) (b.take j)
  obtain ⟨t, k1, k2, k3⟩ := lcs_has (a.drop i) (b.drop j)
  have e1 : (s ++ t).Sublist a := by have := h1.append k1; rwa [List.take_append_drop] at this
  have e2 : (s ++ t).Sublist b := by have := h2.append k2; rwa [List.take_append_drop] at this
  have := lcs_top e1 e2
  rw [List.length_append] at this
  unfold px lx
  omega
/-- and somewhere in each row just as much. -/
theorem px_lx_has (a b : List Int) (i : Nat) : ∃ j, j ≤ b.length ∧ px a b i j + lx a b i j = lcs a b := by
  obtain ⟨s, h1, h2, h3⟩ := lcs_has a b
  rw [← List.take_append_drop i a] at h1
  obtain ⟨s1, s2, rfl, k1, k2⟩ := List.sublist_append_iff.1 h1
  obtain ⟨b1, b2, rfl, l1, l2⟩ := List.append_sublist_iff.1 h2
  refine ⟨b1.length, by simp, ?_⟩
  have e1 : s1.length ≤ px a (b1 ++ b2) i b1.length := by
    unfold px
    refine lcs_top k1 ?_
    simpa using l1
  have e2 : s2.length ≤ lx a (b1 ++ b2) i b1.length := by
    unfold lx
    refine lcs_top k2 ?_
    simpa using l2
  have := px_lx_le a (b1 ++ b2) i b1.length
  rw [List.length_append] at h3
  omega

/-- One number more. -/
theorem lcs_grow_back (x y : List Int) (z : Int) : lcs x y ≤ lcs (x ++ [z]) y ∧ lcs (x ++ [z]) y ≤ lcs x y + 1 ∧ lcs (x ++ [z]) (y ++ [z]) = lcs x y + 1 := by
  refine ⟨lcs_mono (List.sublist_append_left _ _) (List.Sublist.refl _), ?_, by rw [lcs_back]; rfl⟩
  rw [← lcs_rev (x ++ [z]) y, ← lcs_rev x y, List.reverse_append]
  exact lcs_cons_le _ _ _
theorem lcs_grow_front (x y : List Int) (z : Int) : lcs x y ≤ lcs ([z] ++ x) y ∧ lcs ([z] ++ x) y ≤ lcs x y + 1 ∧ lcs ([z] ++ x) ([z] ++ y) = lcs x y + 1 :=
  ⟨lcs_cons_ge _ _ _, lcs_cons_le _ _ _, by rw [lcs_front]; simp only [List.length_singleton]; omega⟩

/-- Of two subsequences of one list what they share. -/
theorem share : ∀ {z s t : List Int}, s.Sublist z → t.Sublist z → ∃ u : List Int, u.Sublist s ∧ u.Sublist t ∧ s.length + t.length ≤ u.length + z.length := by
  intro z
  induction z with
  | nil =>
    intro s t hs ht
    have := List.sublist_nil.1 hs
    have := List.sublist_nil.1 ht
    subst_vars
    exact ⟨[], List.Sublist.refl _, List.Sublist.refl _, by simp⟩
  | cons c z ih =>
    intro s t hs ht
    cases hs with
    | cons _ hs =>
      cases ht with
      | cons _ ht =>
        obtain ⟨u, h1, h2, h3⟩ := ih hs ht
        exact ⟨u, h1, h2, by simp only [List.length_cons]; omega⟩
      | cons_cons _ ht =>
        obtain ⟨u, h1, h2, h3⟩ := ih hs ht
        exact ⟨u, h1, h2.cons _, by simp only [List.length_cons]; omega⟩
    | cons_cons _ hs =>
      cases ht with
      | cons _ ht =>
        obtain ⟨u, h1, h2, h3⟩ := ih hs ht
        exact ⟨u, h1.cons _, h2, by simp only [List.length_cons]; omega⟩
      | cons_cons _ ht =>
        obtain ⟨u, h1, h2, h3⟩ := ih hs ht
        exact ⟨c :: u, h1.cons_cons _, h2.cons_cons _, by simp only [List.length_cons]; omega⟩
theorem lcs_third (x y z : List Int) : lcs x z + lcs z y ≤ lcs x y + z.length := by
  obtain ⟨s, h1, h2, h3⟩ := lcs_has x z
  obtain ⟨t, k1, k2, k3⟩ := lcs_has z y
  obtain ⟨u, l1, l2, l3⟩ := share h2 k1
  have := lcs_top (l1.trans h1) (l2.trans k2)
  omega
/-- How far two lists are from each other. -/
def dist (x y : List Int) : Nat := x.length + y.length - 2 * lcs x y
theorem dist_int (x y : List Int) : ((x.length : Int) + y.length - 2 * (lcs x y : Nat)) = (dist x y : Nat) := by
  have := lcs_le_left x y
  have := lcs_le_right x y
  unfold dist
  omega
theorem dist_comm (x y : List Int) : dist x y = dist y x := by unfold dist; rw [lcs_comm x y]; omega
theorem dist_zero (x y : List Int) : (dist x y = 0) ↔ x = y := by
  have h1 := lcs_le_left x y
  have h2 := lcs_le_right x y
  constructor
  · intro h
    unfold dist at h
    obtain ⟨s, k1, k2, k3⟩ := lcs_has x y
    have e1 := k1.eq_of_length (by omega)
    have e2 := k2.eq_of_length (by omega)
    rw [← e1, ← e2]
  · rintro rfl
    unfold dist
    rw [lcs_self]
    omega
theorem dist_third (x y z : List Int) : dist x y ≤ dist x z + dist z y := by
  have := lcs_third x y z
  have := lcs_le_left x y
  have := lcs_le_right x y
  have := lcs_le_left x z
  have := lcs_le_right x z
  have := lcs_le_left z y
  have := lcs_le_right z y
  unfold dist
  omega
theorem dist_le (x y : List Int) : dist x y ≤ x.length + y.length := by unfold dist; omega

end Go.Proofs.Ytgbcdeahiemhoaa

namespace Go.Proofs.Ytgbcdeahiemhoaa

theorem take_pad {a : List Int} {r : Nat} (h : a[r]? = none) : a.take (r + 1) = a.take r := by
  have := List.getElem?_eq_none_iff.1 h
  rw [List.take_of_length_le (by omega), List.take_of_length_le this]
theorem px_pad_left {a b : List Int} {r : Nat} (c : Nat) (h : a[r]? = none) : px a b (r + 1) c = px a b r c := by unfold px; rw [take_pad h]
theorem px_pad_right {a b : List Int} {c : Nat} (r : Nat) (h : b[c]? = none) : px a b r (c + 1) = px a b r c := by unfold px; rw [take_pad h]
/-- Steps down columns are 0 or 1. -/
theorem px_v (a b : List Int) (r c : Nat) : px a b r c ≤ px a b (r + 1) c ∧ px a b (r + 1) c ≤ px a b r c + 1 := by
  cases h : a[r]? with
  | none => rw [px_pad_left c h]; omega
  | some x =>
    unfold px
    rw [take_snoc h]
    have := lcs_grow_back (a.take r) (b.take c) x
    omega
theorem px_comm (a b : List Int) (r c : Nat) : px a b r c = px b a c r := by unfold px; rw [lcs_comm]
/-- Steps along rows are 0 or 1. -/
theorem px_h (a b : List Int) (r c : Nat) : px a b r c ≤ px a b r (c + 1) ∧ px a b r (c + 1) ≤ px a b r c + 1 := by
  rw [px_comm a b r c, px_comm a b r (c + 1)]
  exact px_v b a c r
/-- The same number stands at both places. -/
def alikeAt (a b : List Int) (r c : Nat) : Bool := match a[r]?, b[c]? with | some x, some y => x == y | _, _ => false
theorem px_step (a b : List Int) (r c : Nat) : px a b (r + 1) (c + 1) = if alikeAt a b r c = true then px a b r c + 1 else max (px a b r (c + 1)) (px a b (r + 1) c) := by
  unfold alikeAt
  cases h1 : a[r]? with
  | none =>
    simp only [Bool.false_eq_true, if_false]
    rw [px_pad_left (c + 1) h1, px_pad_left c h1]
    have := px_h a b r c
    omega
  | some x =>
    cases h2 : b[c]? with
    | none =>
      simp only [Bool.false_eq_true, if_false]
      rw [px_pad_right (r + 1) h2, px_pad_right r h2]
      have := px_v a b r c
      omega
    | some y =>
      by_cases e : x = y
      · subst e
        simp only [beq_self_eq_true, if_true]
        exact px_same h1 h2
      · have e' : (x == y) = false := by simpa using e
        simp only [e', Bool.false_eq_true, if_false]
        exact px_other h1 h2 e

/-- A square that stands at (i, j) of the table. -/
structure Stands (a b : List Int) (t eq top left i j : Nat) : Prop where
  alike : ∀ r c, r < t → c < t → bitN eq (r * t + c) = if alikeAt a b (i + r) (j + c) = true then 1 else 0
  top : ∀ c, c < t → bitN top c = px a b i (j + c + 1) - px a b i (j + c)
  left : ∀ r, r < t → bitN left r = px a b (i + r + 1) j - px a b (i + r) j
theorem stands_at {a b : List Int} {t eq top left i j : Nat} (h : Stands a b t eq top left i j) : ∀ r c, r ≤ t → c ≤ t → px a b i j + sqN t eq top left r c = px a b (i + r) (j + c)
  | 0, 0, _, _ => by rw [sqN_top]; rfl
  | 0, c + 1, h1, h2 => by
    have := stands_at h 0 c h1 (by omega)
    have e := h.top c (by omega)
    have g := px_h a b i (j + c)
    have e2 : px a b (i + 0) (j + (c + 1)) = px a b i (j + c + 1) := rfl
    have e3 : px a b (i + 0) (j + c) = px a b i (j + c) := rfl
    rw [sqN_top, sumN, ← sqN_top t eq top left, e]
    omega
  | r + 1, 0, h1, h2 => by
    have := stands_at h r 0 (by omega) h2
    have e := h.left r (by omega)
    have g := px_v a b (i + r) j
    have e2 : px a b (i + (r + 1)) (j + 0) = px a b (i + r + 1) j := rfl
    have e3 : px a b (i + r) (j + 0) = px a b (i + r) j := rfl
    rw [sqN_left, sumN, ← sqN_left t eq top left, e]
    omega
  | r + 1, c + 1, h1, h2 => by
    have f1 := stands_at h r c (by omega) (by omega)
    have f2 := stands_at h r (c + 1) (by omega) h2
    have f3 := stands_at h (r + 1) c h1 (by omega)
    have e := h.alike r c (by omega) (by omega)
    rw [← Nat.add_assoc] at f2 f3 ⊢
    have g := px_step a b (i + r) (j + c)
    rw [← Nat.add_assoc, g]
    have q : sqN t eq top left (r + 1) (c + 1) = if bitN eq (r * t + c) = 1 then sqN t eq top left r c + 1 else max (sqN t eq top left r (c + 1)) (sqN t eq top left (r + 1) c) := by
      unfold sqN
      rw [sq_rc]
      simp
    rw [q, e]
    by_cases hh : alikeAt a b (i + r) (j + c) = true
    · simp only [hh, if_true]
      omega
    · rw [if_neg hh, if_neg hh, if_neg (by decide)]
      omega
termination_by r c => (r, c)
theorem stands_bot {a b : List Int} {t eq top left i j : Nat} (h : Stands a b t eq top left i j) {k : Nat} (hk : k < t) : bitN (botN t eq top left) k = px a b (i + t) (j + k + 1) - px a b (i + t) (j + k) := by
  have h1 := stands_at h t k (Nat.le_refl _) (by omega)
  have h2 := stands_at h t (k + 1) (Nat.le_refl _) hk
  unfold botN
  rw [num_bit (botF_le t eq top left) t k hk]
  unfold botF
  rw [← Nat.add_assoc] at h2
  omega
theorem stands_rgt {a b : List Int} {t eq top left i j : Nat} (h : Stands a b t eq top left i j) {k : Nat} (hk : k < t) : bitN (rgtN t eq top left) k = px a b (i + k + 1) (j + t) - px a b (i + k) (j + t) := by
  have h1 := stands_at h k t (by omega) (Nat.le_refl _)
  have h2 := stands_at h (k + 1) t hk (Nat.le_refl _)
  unfold rgtN
  rw [num_bit (rgtF_le t eq top left) t k hk]
  unfold rgtF
  rw [← Nat.add_assoc] at h2
  omega
/-- The steps of a row add up to its last number. -/
theorem px_sum (a b : List Int) (r : Nat) : ∀ c, sumN (fun k => px a b r (k + 1) - px a b r k) c = px a b r c
  | 0 => by rw [px_zero_right]; rfl
  | c + 1 => by have := px_sum a b r c; have := px_h a b r c; rw [sumN]; omega
theorem px_beyond (a b : List Int) {r c : Nat} (hr : a.length ≤ r) (hc : b.length ≤ c) : px a b r c = lcs a b := by unfold px; rw [List.take_of_length_le hr, List.take_of_length_le hc]
/-- How many squares of side t a length takes. -/
def upN (n t : Nat) : Nat := (n + t - 1) / t
theorem upN_ge {n t : Nat} (ht : 1 ≤ t) : n ≤ upN n t * t := by
  unfold upN
  have h1 := Nat.div_add_mod (n + t - 1) t
  have h2 := Nat.mod_lt (n + t - 1) ht
  rw [Nat.mul_comm] at h1
  omega
theorem upN_mono {n m t : Nat} (h : n ≤ m) : upN n t ≤ upN m t := Nat.div_le_div_right (by omega)
theorem upN_le {n s t : Nat} (hs : 1 ≤ s) (h : s ≤ t) : upN n t ≤ upN n s := by
  unfold upN
  rw [Nat.div_le_iff_le_mul_add_pred (by omega)]
  have h1 := upN_ge (n := n) hs
  unfold upN at h1
  have h2 := Nat.mul_le_mul_left ((n + s - 1) / s) h
  rw [Nat.mul_comm t]
  omega

end Go.Proofs.Ytgbcdeahiemhoaa

namespace Go.Proofs.Ytgbcdeahiemhoaa

/-- What a point costs. -/
def cst (x y : List Int) (W i j : Nat) : Nat := (i - px x y i j) + (j - (i + W))
theorem px_le_i (x y : List Int) (i j : Nat) : px x y i j ≤ i := by
  have := lcs_le_left (x.take i) (y.take j)
  rw [List.length_take] at this
  unfold px
  omega
theorem px_le_j (x y : List Int) (i j : Nat) : px x y i j ≤ j := by
  have := lcs_le_right (x.take i) (y.take j)
  rw [List.length_take] at this
  unfold px
  omega
theorem px_diag (x y : List Int) (i j : Nat) : px x y i j ≤ px x y (i + 1) (j + 1) ∧ px x y (i + 1) (j + 1) ≤ px x y i j + 1 := by
  have h1 := px_v x y i j
  have h2 := px_h x y i j
  have h3 := px_step x y i j
  have h4 := px_h x y (i + 1) j
  split at h3 <;> omega
theorem cst_diag (x y : List Int) (W i j : Nat) : cst x y W i j ≤ cst x y W (i + 1) (j + 1) := by
  have h := px_diag x y i j
  have := px_le_i x y i j
  have := px_le_i x y (i + 1) (j + 1)
  unfold cst
  omega
theorem cst_far (x y : List Int) (W i j : Nat) : ∀ d, cst x y W i j ≤ cst x y W (i + d) (j + d)
  | 0 => Nat.le_refl _
  | d + 1 => Nat.le_trans (cst_far x y W i j d) (cst_diag x y W (i + d) (j + d))
theorem cst_same {x y : List Int} {W i j : Nat} {u : Int} (h1 : x[i]? = some u) (h2 : y[j]? = some u) : cst x y W (i + 1) (j + 1) = cst x y W i j := by
  have h := px_same h1 h2
  have := px_le_i x y i j
  unfold cst
  omega
theorem cst_run (x y : List Int) (W i j : Nat) : ∀ d, d ≤ dnN x y i j → cst x y W (i + d) (j + d) = cst x y W i j
  | 0, _ => rfl
  | d + 1, h => by
    have ih := cst_run x y W i j d (by omega)
    obtain ⟨l1, l2⟩ := dnN_le x y i j
    have e0 := congrArg (fun l => l[d]?) (dn_take x y i j)
    simp only [List.getElem?_take, if_pos (show d < dnN x y i j by omega), List.getElem?_drop] at e0
    have g1 : x[i + d]? = some (x[i + d]'(by omega)) := List.getElem?_eq_getElem _
    have g2 : y[j + d]? = some (x[i + d]'(by omega)) := by rw [← e0]; exact g1
    rw [← ih]
    exact cst_same g1 g2
/-- Down a row, right a column; and back. -/
theorem cst_down (x y : List Int) (W i j : Nat) : cst x y W (i + 1) j + (if i + W < j then 1 else 0) ≤ cst x y W i j + 1 := by
  have := (px_v x y i j).1
  have := px_le_i x y i j
  unfold cst
  split <;> omega
theorem cst_right (x y : List Int) (W i j : Nat) : cst x y W i (j + 1) ≤ cst x y W i j + (if i + W ≤ j then 1 else 0) := by
  have := (px_h x y i j).1
  have := px_le_i x y i (j + 1)
  unfold cst
  split <;> omega
theorem cst_up (x y : List Int) (W i j : Nat) : cst x y W i j ≤ cst x y W (i + 1) j + (if i + W < j then 1 else 0) := by
  have := (px_v x y i j).2
  have := px_le_i x y i j
  unfold cst
  split <;> omega
theorem cst_left (x y : List Int) (W i j : Nat) : cst x y W i j + (if i + W ≤ j then 1 else 0) ≤ cst x y W i (j + 1) + 1 := by
  have := (px_h x y i j).2
  have := px_le_i x y i j
  unfold cst
  split <;> omega
/-- Where two numbers are not alike, the cost comes from a neighbour. -/
theorem cst_other {x y : List Int} {W i j : Nat} {u v : Int} (h1 : x[i]? = some u) (h2 : y[j]? = some v) (hne : u ≠ v) :
    cst x y W i (j + 1) + 1 ≤ cst x y W (i + 1) (j + 1) + (if i + W ≤ j then 1 else 0) ∨ cst x y W (i + 1) j + (if i + W < j then 1 else 0) ≤ cst x y W (i + 1) (j + 1) := by
  have h := px_other h1 h2 hne
  have := px_le_i x y i (j + 1)
  have := px_le_i x y (i + 1) j
  unfold cst
  by_cases e : px x y i (j + 1) ≤ px x y (i + 1) j
  · right
    split <;> omega
  · left
    split <;> omega
theorem cst_ge (x y : List Int) (W i j : Nat) : i ≤ cst x y W i j + j ∧ j ≤ cst x y W i j + i + W := by
  have := px_le_j x y i j
  unfold cst
  omega

/-- The greatest j of a diagonal's points, of those in the first rows, whose cost is at most p; -1 where there is none. -/
def frB (x y : List Int) (W : Nat) (p k : Int) : Nat → Int
  | 0 => -1
  | i + 1 => if (0 ≤ (i : Int) + k ∧ (i : Int) + k ≤ (y.length : Int)) ∧ (cst x y W i ((i : Int) + k).toNat : Int) ≤ p then max (frB x y W p k i) ((i : Int) + k) else frB x y W p k i
def fr (x y : List Int) (W : Nat) (p k : Int) : Int := frB x y W p k (x.length + 1)
theorem frB_ge (x y : List Int) (W : Nat) (p k : Int) (i j : Nat) (hj : j ≤ y.length) (hk : (j : Int) - i = k) (hc : (cst x y W i j : Int) ≤ p) : ∀ c, i < c → (j : Int) ≤ frB x y W p k c
  | 0, h => absurd h (Nat.not_lt_zero _)
  | c + 1, h => by
    rw [frB]
    by_cases e : i = c
    · subst e
      have ej : ((i : Int) + k).toNat = j := by omega
      rw [if_pos ⟨⟨by omega, by omega⟩, by rw [ej]; exact hc⟩]
      omega
    · have ih := frB_ge x y W p k i j hj hk hc c (by omega)
      split <;> omega
theorem frB_is (x y : List Int) (W : Nat) (p k : Int) : ∀ c, frB x y W p k c = -1 ∨ ∃ i j : Nat, i < c ∧ j ≤ y.length ∧ (j : Int) - i = k ∧ (cst x y W i j : Int) ≤ p ∧ frB x y W p k c = j
  | 0 => .inl rfl
  | c + 1 => by
    have ih := frB_is x y W p k c
    rw [frB]
    split
    · rename_i h
      obtain ⟨⟨h1, h2⟩, h3⟩ := h
      right
      by_cases g : (c : Int) + k ≤ frB x y W p k c
      · rcases ih with e | ⟨i, j, a1, a2, a3, a4, a5⟩
        · omega
        · exact ⟨i, j, by omega, a2, a3, a4, by omega⟩
      · exact ⟨c, ((c : Int) + k).toNat, by omega, by omega, by omega, h3, by omega⟩
    · rcases ih with e | ⟨i, j, a1, a2, a3, a4, a5⟩
      · exact .inl e
      · exact .inr ⟨i, j, by omega, a2, a3, a4, a5⟩
theorem fr_ge {x y : List Int} {W : Nat} {p k : Int} {i j : Nat} (hi : i ≤ x.length) (hj : j ≤ y.length) (hk : (j : Int) - i = k) (hc : (cst x y W i j : Int) ≤ p) : (j : Int) ≤ fr x y W p k := frB_ge x y W p k i j hj hk hc _ (by omega)
theorem fr_is (x y : List Int) (W : Nat) (p k : Int) : fr x y W p k = -1 ∨ ∃ i j : Nat, i ≤ x.length ∧ j ≤ y.length ∧ (j : Int) - i = k ∧ (cst x y W i j : Int) ≤ p ∧ fr x y W p k = j := by
  rcases frB_is x y W p k (x.length + 1) with e | ⟨i, j, a1, a2, a3, a4, a5⟩
  · exact .inl e
  · exact .inr ⟨i, j, by omega, a2, a3, a4, a5⟩
theorem fr_low (x y : List Int) (W : Nat) (p k : Int) : -1 ≤ fr x y W p k ∧ fr x y W p k ≤ y.length := by
  rcases fr_is x y W p k with e | ⟨i, j, a1, a2, a3, a4, a5⟩ <;> omega
theorem fr_mono (x y : List Int) (W : Nat) {p q : Int} (k : Int) (h : p ≤ q) : fr x y W p k ≤ fr x y W q k := by
  rcases fr_is x y W p k with e | ⟨i, j, a1, a2, a3, a4, a5⟩
  · have := (fr_low x y W q k).1
    omega
  · rw [a5]
    exact fr_ge a1 a2 a3 (by omega)
theorem fr_out {x y : List Int} {W : Nat} {p k : Int} (h : k < -p ∨ (W : Int) + p < k) : fr x y W p k = -1 := by
  rcases fr_is x y W p k with e | ⟨i, j, a1, a2, a3, a4, a5⟩
  · exact e
  · have := cst_ge x y W i j
    omega
/-- What one comes to from the diagonal above, and from the one below. -/
def upV (x y : List Int) (W : Nat) (p k : Int) : Int := if k < (W : Int) then fr x y W (p - 1) (k + 1) else fr x y W p (k + 1)
def lfV (x y : List Int) (W : Nat) (p k : Int) : Int := (if k ≤ (W : Int) then fr x y W p (k - 1) else fr x y W (p - 1) (k - 1)) + 1
/-- From a point that may be had at the cost, and that no neighbour goes beyond, a run ends where the diagonal ends at that cost. -/
theorem fr_run {x y : List Int} {W : Nat} {p k : Int} {i s : Nat} (hi : i ≤ x.length) (hs : s ≤ y.length) (hk : (s : Int) - i = k) (hc : (cst x y W i s : Int) ≤ p) (hu : upV x y W p k ≤ s ∨ i = x.length ∨ s = y.length) (hv : lfV x y W p k ≤ s ∨ i = x.length ∨ s = y.length) :
    fr x y W p k = ((s + dnN x y i s : Nat) : Int) := by
  obtain ⟨l1, l2⟩ := dnN_le x y i s
  have hr := cst_run x y W i s _ (Nat.le_refl _)
  have hge := fr_ge (x := x) (y := y) (W := W) (p := p) (k := k) (i := i + dnN x y i s) (j := s + dnN x y i s) (by omega) (by omega) (by omega) (by omega)
  have hend := dn_end x y i s hi hs
  generalize dnN x y i s = D at *
  rcases fr_is x y W p k with e | ⟨i', j, a1, a2, a3, a4, a5⟩
  · omega
  · by_cases hlt : s + D < j
    · exfalso
      have hf := cst_far x y W (i + D + 1) (s + D + 1) (j - (s + D + 1))
      rw [show s + D + 1 + (j - (s + D + 1)) = j by omega, show i + D + 1 + (j - (s + D + 1)) = i' by omega] at hf
      rcases hend with h | h | ⟨u, v, h1, h2, hne⟩
      · omega
      · omega
      · have ho := cst_other (W := W) h1 h2 hne
        rcases ho with ho | ho
        · have hu' : upV x y W p k ≤ s := by omega
          unfold upV at hu'
          split at hu'
          · rename_i hkW
            have := fr_ge (x := x) (y := y) (W := W) (p := p - 1) (k := k + 1) (i := i + D) (j := s + D + 1) (by omega) (by omega) (by omega) (by rw [if_neg (by omega)] at ho; omega)
            omega
          · rename_i hkW
            have := fr_ge (x := x) (y := y) (W := W) (p := p) (k := k + 1) (i := i + D) (j := s + D + 1) (by omega) (by omega) (by omega) (by rw [if_pos (by omega)] at ho; omega)
            omega
        · have hv' : lfV x y W p k ≤ s := by omega
          unfold lfV at hv'
          split at hv'
          · rename_i hkW
            have := fr_ge (x := x) (y := y) (W := W) (p := p) (k := k - 1) (i := i + D + 1) (j := s + D) (by omega) (by omega) (by omega) (by omega)
            omega
          · rename_i hkW
            have := fr_ge (x := x) (y := y) (W := W) (p := p - 1) (k := k - 1) (i := i + D + 1) (j := s + D) (by omega) (by omega) (by omega) (by rw [if_pos (by omega)] at ho; omega)
            omega
    · omega
/-- The candidates may be had at the cost, or the point ahead of them where they are beyond the table. -/
theorem lf_pt {x y : List Int} {W : Nat} {p k : Int} (hk : k ≤ y.length) (h : 1 ≤ lfV x y W p k) : ∃ i s : Nat, i ≤ x.length ∧ s ≤ y.length ∧ (s : Int) - i = k ∧ (cst x y W i s : Int) ≤ p ∧ (lfV x y W p k = s ∨ (lfV x y W p k = (s : Int) + 1 ∧ s = y.length)) := by
  unfold lfV at h ⊢
  split at h
  · rename_i hkW
    rw [if_pos hkW]
    rcases fr_is x y W p (k - 1) with e | ⟨i, j, a1, a2, a3, a4, a5⟩
    · omega
    · by_cases hj : j < y.length
      · have := cst_right x y W i j
        rw [if_neg (by omega)] at this
        exact ⟨i, j + 1, a1, hj, by omega, by omega, .inl (by omega)⟩
      · have hi : 0 < i := by omega
        have := cst_up x y W (i - 1) j
        rw [show i - 1 + 1 = i by omega, if_neg (by omega)] at this
        exact ⟨i - 1, j, by omega, a2, by omega, by omega, .inr ⟨by omega, by omega⟩⟩
  · rename_i hkW
    rw [if_neg hkW]
    rcases fr_is x y W (p - 1) (k - 1) with e | ⟨i, j, a1, a2, a3, a4, a5⟩
    · omega
    · by_cases hj : j < y.length
      · have := cst_right x y W i j
        rw [if_pos (by omega)] at this
        exact ⟨i, j + 1, a1, hj, by omega, by omega, .inl (by omega)⟩
      · have hi : 0 < i := by omega
        have := cst_up x y W (i - 1) j
        rw [show i - 1 + 1 = i by omega, if_pos (by omega)] at this
        exact ⟨i - 1, j, by omega, a2, by omega, by omega, .inr ⟨by omega, by omega⟩⟩
theorem up_pt {x y : List Int} {W : Nat} {p k : Int} (hk : -(x.length : Int) ≤ k) (h : 0 ≤ upV x y W p k) : ∃ i s : Nat, i ≤ x.length ∧ s ≤ y.length ∧ (s : Int) - i = k ∧ (cst x y W i s : Int) ≤ p ∧ (upV x y W p k = s ∨ (upV x y W p k = (s : Int) + 1 ∧ i = x.length)) := by
  unfold upV at h ⊢
  split at h
  · rename_i hkW
    rw [if_pos hkW]
    rcases fr_is x y W (p - 1) (k + 1) with e | ⟨i, j, a1, a2, a3, a4, a5⟩
    · omega
    · by_cases hi : i < x.length
      · have := cst_down x y W i j
        exact ⟨i + 1, j, hi, a2, by omega, by omega, .inl (by omega)⟩
      · have hj : 0 < j := by omega
        have := cst_left x y W i (j - 1)
        rw [show j - 1 + 1 = j by omega] at this
        exact ⟨i, j - 1, a1, by omega, by omega, by omega, .inr ⟨by omega, by omega⟩⟩
  · rename_i hkW
    rw [if_neg hkW]
    rcases fr_is x y W p (k + 1) with e | ⟨i, j, a1, a2, a3, a4, a5⟩
    · omega
    · by_cases hi : i < x.length
      · have := cst_down x y W i j
        rw [if_pos (by omega)] at this
        exact ⟨i + 1, j, hi, a2, by omega, by omega, .inl (by omega)⟩
      · have hj : 0 < j := by omega
        have := cst_left x y W i (j - 1)
        rw [show j - 1 + 1 = j by omega, if_pos (by omega)] at this
        exact ⟨i, j - 1, a1, by omega, by omega, by omega, .inr ⟨by omega, by omega⟩⟩
/-- A diagonal within the cost's range has a first point. -/
theorem cand_first {x y : List Int} {W : Nat} {p k : Int} (hk2 : k ≤ (W : Int) + p) (hm : k ≤ y.length) (hp : 0 ≤ p) : max k 0 ≤ lfV x y W p k := by
  have h1 := (fr_low x y W p (k - 1)).1
  have h2 := (fr_low x y W (p - 1) (k - 1)).1
  by_cases h : 1 ≤ k
  · obtain ⟨t, ht⟩ : ∃ t : Nat, k - 1 = (t : Int) := ⟨(k - 1).toNat, by omega⟩
    have hc : cst x y W 0 t = t - W := by unfold cst; omega
    unfold lfV
    split
    · have := fr_ge (x := x) (y := y) (W := W) (p := p) (k := k - 1) (i := 0) (j := t) (by omega) (by omega) (by omega) (by omega)
      omega
    · have := fr_ge (x := x) (y := y) (W := W) (p := p - 1) (k := k - 1) (i := 0) (j := t) (by omega) (by omega) (by omega) (by omega)
      omega
  · unfold lfV
    split <;> omega
/-- The step: a run from the farther one of both neighbours' points, brought back into the table. -/
theorem fr_next {x y : List Int} {W : Nat} {p k : Int} (hp : 0 ≤ p) (hk1 : -p ≤ k) (hk2 : k ≤ (W : Int) + p) (hn : -(x.length : Int) ≤ k) (hm : k ≤ y.length) :
    ∃ i s : Nat, (s : Int) = min (min (max (upV x y W p k) (lfV x y W p k)) y.length) (x.length + k) ∧ i ≤ x.length ∧ s ≤ y.length ∧ (s : Int) - i = k ∧ (cst x y W i s : Int) ≤ p ∧ fr x y W p k = ((s + dnN x y i s : Nat) : Int) := by
  have hf := cand_first (x := x) (y := y) (W := W) hk2 hm hp
  by_cases hge : lfV x y W p k ≤ upV x y W p k
  · obtain ⟨i, s, a1, a2, a3, a4, a5⟩ := up_pt (x := x) (y := y) (W := W) (p := p) hn (by omega)
    refine ⟨i, s, by omega, a1, a2, a3, a4, fr_run a1 a2 a3 a4 ?_ ?_⟩ <;> omega
  · by_cases h1 : 1 ≤ lfV x y W p k
    · obtain ⟨i, s, a1, a2, a3, a4, a5⟩ := lf_pt (x := x) (y := y) (W := W) (p := p) hm h1
      refine ⟨i, s, by omega, a1, a2, a3, a4, fr_run a1 a2 a3 a4 ?_ ?_⟩ <;> omega
    · obtain ⟨i, hi⟩ : ∃ i : Nat, -k = (i : Int) := ⟨(-k).toNat, by omega⟩
      have hc : cst x y W i 0 = i := by unfold cst; rw [px_zero_right]; omega
      have := fr_run (x := x) (y := y) (W := W) (p := p) (k := k) (i := i) (s := 0) (by omega) (by omega) (by omega) (by omega) (by omega) (by omega)
      exact ⟨i, 0, by omega, by omega, by omega, by omega, by omega, this⟩
theorem fr_first {x y : List Int} {W : Nat} {p k : Int} (hp : 0 ≤ p) (hk1 : -p ≤ k) (hk2 : k ≤ (W : Int) + p) (hn : -(x.length : Int) ≤ k) (hm : k ≤ y.length) : max k 0 ≤ fr x y W p k := by
  by_cases h : 0 ≤ k
  · obtain ⟨t, ht⟩ : ∃ t : Nat, k = (t : Int) := ⟨k.toNat, by omega⟩
    have hc : cst x y W 0 t = t - W := by unfold cst; omega
    have := fr_ge (x := x) (y := y) (W := W) (p := p) (k := k) (i := 0) (j := t) (by omega) (by omega) (by omega) (by omega)
    omega
  · obtain ⟨i, hi⟩ : ∃ i : Nat, -k = (i : Int) := ⟨(-k).toNat, by omega⟩
    have hc : cst x y W i 0 = i := by unfold cst; rw [px_zero_right]; omega
    have := fr_ge (x := x) (y := y) (W := W) (p := p) (k := k) (i := i) (j := 0) (by omega) (by omega) (by omega) (by omega)
    omega
/-- The end is come to at what the whole costs. -/
theorem fr_end {x y : List Int} {W : Nat} {p : Int} (hW : x.length + W = y.length) : fr x y W p W = y.length ↔ ((x.length - lcs x y : Nat) : Int) ≤ p := by
  have hc : cst x y W x.length y.length = x.length - lcs x y := by unfold cst; rw [px_all]; omega
  constructor
  · intro h
    rcases fr_is x y W p W with e | ⟨i, j, a1, a2, a3, a4, a5⟩
    · omega
    · have ei : i = x.length := by omega
      have ej : j = y.length := by omega
      rw [ei, ej, hc] at a4
      exact a4
  · intro h
    have := fr_ge (x := x) (y := y) (W := W) (p := p) (k := W) (i := x.length) (j := y.length) (Nat.le_refl _) (Nat.le_refl _) (by omega) (by rw [hc]; exact h)
    have := (fr_low x y W p W).2
    omega

end Go.Proofs.Ytgbcdeahiemhoaa

namespace Go.Proofs.Ytgbcdeahiemhoaa
open Go.RowKit

/-! ### Turned -/
/-- The numbers from place r on, turned round. -/
def TuRel (l : List Int) (w : World) (v i : Value) (wr : World) : Prop :=
  (∃ r t : Nat, r + t + 1 = l.length ∧ i = .int .i64 (r : Int) ∧ wr.ownsRow w.heap.size 3 1 v t (iv (l.drop (r + 1)).reverse) ∧ Below w.heap.size w wr) ∨ (i = .int .i64 (-1) ∧ wr.ownsRow w.heap.size 3 1 v l.length (iv l.reverse) ∧ Below w.heap.size w wr)
theorem tu_start {l : List Int} {w : World} {x : Int} (hx : x = (l.length : Int) - 1) : TuRel l w (.slice none 0 0) (.int .i64 x) w := by
  subst hx
  cases h : l.length with
  | zero =>
    have := List.eq_nil_of_length_eq_zero h
    subst this
    exact .inr ⟨by simp, by simpa [iv] using World.ownsRow_nil w _ _ _, Below.refl _ _⟩
  | succ n => exact .inl ⟨n, 0, by omega, by congr 1; omega, by rw [List.drop_of_length_le (by omega)]; exact World.ownsRow_nil _ _ _ _, Below.refl _ _⟩
theorem tu_next {l : List Int} {w wr : World} {v : Value} {r t : Nat} {x y : Int} (hr : r + t + 1 = l.length) (hx : l[r]? = some x) (hy : y = (r : Int) - 1) (h : wr.ownsRow w.heap.size 3 1 v (t + 1) (iv (l.drop (r + 1)).reverse ++ [.int .i64 x])) (hb : Below w.heap.size w wr) : TuRel l w v (.int .i64 y) wr := by
  subst hy
  have e : iv (l.drop r).reverse = iv (l.drop (r + 1)).reverse ++ [.int .i64 x] := by
    obtain ⟨g, e⟩ := List.getElem?_eq_some_iff.1 hx
    rw [List.drop_eq_getElem_cons g, e, List.reverse_cons, iv_append]
    rfl
  cases r with
  | zero => exact .inr ⟨by simp, by rw [← hr, show 0 + t + 1 = t + 1 by omega]; rw [List.drop_zero] at e; rw [e]; exact h, hb⟩
  | succ r => exact .inl ⟨r, t + 1, by omega, by congr 1; omega, by rw [e]; exact h, hb⟩

set_option maxHeartbeats 800000 in
theorem turned_any (A : Option Addr) (N c : Nat) (l : List Int) (w : World) (hN : l.length = N) (hb : N ≤ 1048576) (hr : Row w A (iv l)) :
    Calls Try.prog 40 #[.slice A N c] w (MadeI l.reverse w) := by
  subst hN
  obtain ⟨i0, hi, hz0, hz1, hz2⟩ := info_parts Try.infoInt
  go_enter Try.func40, Try.ntmps40
  go_wp2_with fail
  go_loopw [3, 4] (fun v i wr => TuRel l w v i wr) (fun _ i _ => (intOf i + 1).toNat)
  case atStart => exact tu_start (by omega)
  case round =>
    rcases hrel with ⟨r, t, hrt, rfl, hwn, hbr⟩ | ⟨rfl, hwn, hbr⟩
    · have hlt : r < l.length := by omega
      obtain ⟨g, o, rfl, hc⟩ := (hr.below hbr).int hlt
      have HX : Hid (l[r]? = some l[r]) := List.getElem?_eq_getElem hlt
      generalize l[r] = x at *
      have hsz := hbr.size
      have HB := Lib.hid hbr
      clear hr
      go_wp2_with (at_builtin; refine wpList_append_own _ rfl (.tmp 12) (.tmp 17) 24 rfl w.heap.size 3 i0 (.int .i64 0) 1 8 Try.underlying24 hi hz0 hz1 hz2 rfl (by decide) _ _ _ rfl (hwn.alloc _) ⟨wr.heap.size, 0, none⟩ 1 1 [_] rfl rfl (cell_one_new _ _ _) (one_int _ _) (by unfold maxLen; omega) (by omega) (by simp; omega) ?_)
      intro v' w3 hown' hg' _
      have R := Lib.hid (fun y hy => tu_next (y := y) hrt HX.out hy hown' ((HB.out.alloc (by omega) _).grown hg' (by simp; omega) (fun x hx => (hwn.lt x hx).1)))
      clear hown' hg' hwn hbr
      go_wp2_with fail
      go_roundw
      case rel => exact R.out _ (by omega)
      case measure => simp [intOf]
    · have HF : Hid (MadeI l.reverse w (.returned u3) wr) := ⟨u3, rfl, by rw [List.length_reverse]; exact hwn, hbr⟩
      clear hwn hbr
      go_wp2_with fail
      go_ret
      exact HF.out

/-! ### Dist -/
set_option maxHeartbeats 800000 in
theorem rdist_any (A B : Option Addr) (n m c d : Nat) (a b : List Int) (w : World) (hn : a.length = n) (hm : b.length = m) (hb : n ≤ 1048576) (hb' : m ≤ 1048576) (h1 : Row w A (iv a)) (h2 : Row w B (iv b)) :
    Calls Try.prog 14 #[.slice A n c, .slice B m d] w fun e w' => e = .returned (.int .i64 (dist a b : Nat)) ∧ Below w.heap.size w w' := by
  have l1 := lcs_le_left a b
  have l2 := lcs_le_right a b
  have HD := Lib.hid (dist_int a b)
  rw [hn, hm] at HD
  rw [hn] at l1
  rw [hm] at l2
  have C := Lib.hid (len_any A B n m c d a b w hn hm hb hb' h1 h2)
  clear h1 h2 hn hm
  generalize lcs a b = L at *
  generalize dist a b = D at *
  go_enter Try.func14, Try.ntmps14
  go_wp2_with fail
  refine C.out.mono ?_
  rintro e w1 ⟨rfl, hB⟩
  go_wp2_with fail
  go_ret
  exact ⟨ret_int (by have := HD.out; omega), hB⟩

/-! ### Picked -/
def bvs (l : List Bool) : List Value := l.map Value.bool
theorem bvs_length (l : List Bool) : (bvs l).length = l.length := by simp [bvs]
theorem Row.bool {w : World} {A : Option Addr} {l : List Bool} (h : Row w A (bvs l)) {k : Nat} (hk : k < l.length) : ∃ g o, A = some ⟨g, o, none⟩ ∧ w.cell? ⟨g, o + k, none⟩ = some (.bool l[k]) := by
  obtain ⟨g, o, e, hc⟩ := h.at_ k (by simpa [bvs] using hk)
  exact ⟨g, o, e, by rw [hc]; simp [bvs]⟩
/-- Those whose bits are 1. -/
def pick : List Int → List Bool → List Int
  | x :: a, true :: s => x :: pick a s
  | _ :: a, false :: s => pick a s
  | _, _ => []
theorem pick_sub : ∀ (a : List Int) (s : List Bool), (pick a s).Sublist a
  | [], _ => List.Sublist.refl _
  | _ :: _, [] => List.nil_sublist _
  | x :: a, true :: s => (pick_sub a s).cons_cons x
  | x :: a, false :: s => (pick_sub a s).cons x
theorem pick_nil (a : List Int) : pick a [] = [] := by cases a <;> rfl
theorem pick_step : ∀ {a : List Int} {s : List Bool} {k : Nat} {x : Int} {t : Bool}, a[k]? = some x → s[k]? = some t → pick (a.take (k + 1)) (s.take (k + 1)) = pick (a.take k) (s.take k) ++ (if t then [x] else [])
  | y :: a, u :: s, 0, x, t, h1, h2 => by
    simp at h1 h2
    subst h1
    subst h2
    cases u <;> simp [pick, pick_nil]
  | y :: a, u :: s, k + 1, x, t, h1, h2 => by
    have ih := pick_step (a := a) (s := s) (k := k) (by simpa using h1) (by simpa using h2)
    simp only [List.take_succ_cons]
    cases u
    · simpa [pick] using ih
    · simpa [pick] using ih
  | [], _, _, _, _, h1, _ => by simp at h1
  | _ :: _, [], _, _, _, _, h2 => by simp at h2
theorem pick_take (a : List Int) (s : List Bool) {k : Nat} (h : a.length ≤ k ∨ s.length ≤ k) : pick (a.take k) (s.take k) = pick a s := by
  induction a generalizing s k with
  | nil => simp [pick]
  | cons x a ih =>
    cases s with
    | nil => rw [List.take_nil, pick_nil, pick_nil]
    | cons t s =>
      cases k with
      | zero => simp at h
      | succ k =>
        have := ih s (k := k) (by simpa using h)
        simp only [List.take_succ_cons]
        cases t
        · simpa [pick] using this
        · simpa [pick] using this

def PkRel (a : List Int) (s : List Bool) (w : World) (v i : Value) (wr : World) : Prop :=
  ∃ k t : Nat, k ≤ a.length ∧ t ≤ k ∧ i = .int .i64 (k : Int) ∧ Hid ((pick (a.take k) (s.take k)).length = t) ∧ wr.ownsRow w.heap.size 3 1 v t (iv (pick (a.take k) (s.take k))) ∧ Below w.heap.size w wr
theorem pk_skip {a : List Int} {s : List Bool} {w wr : World} {v : Value} {k t : Nat} {x : Int} (hk : k < a.length) (ht : t ≤ k) (h1 : a[k]? = some x) (h2 : s[k]? = some false) (hl : (pick (a.take k) (s.take k)).length = t) (h : wr.ownsRow w.heap.size 3 1 v t (iv (pick (a.take k) (s.take k)))) (hb : Below w.heap.size w wr) : PkRel a s w v (.int .i64 (k + 1 : Nat)) wr := by
  have e := pick_step h1 h2
  simp only [Bool.false_eq_true, if_false, List.append_nil] at e
  exact ⟨k + 1, t, by omega, by omega, rfl, by show _ = _; rw [e, hl], by rw [e]; exact h, hb⟩
theorem pk_put {a : List Int} {s : List Bool} {w wr : World} {v : Value} {k t : Nat} {x : Int} (hk : k < a.length) (ht : t ≤ k) (h1 : a[k]? = some x) (h2 : s[k]? = some true) (hl : (pick (a.take k) (s.take k)).length = t) (h : wr.ownsRow w.heap.size 3 1 v (t + 1) (iv (pick (a.take k) (s.take k)) ++ [.int .i64 x])) (hb : Below w.heap.size w wr) : PkRel a s w v (.int .i64 (k + 1 : Nat)) wr := by
  have e := pick_step h1 h2
  simp only [if_true] at e
  exact ⟨k + 1, t + 1, by omega, by omega, rfl, by show _ = _; rw [e, List.length_append, hl]; rfl, by rw [e, iv_append]; exact h, hb⟩
theorem pk_done {a : List Int} {s : List Bool} {w wr : World} {v : Value} {k t : Nat} (hk : a.length ≤ k ∨ s.length ≤ k) (hl : (pick (a.take k) (s.take k)).length = t) (h : wr.ownsRow w.heap.size 3 1 v t (iv (pick (a.take k) (s.take k)))) (hb : Below w.heap.size w wr) : MadeI (pick a s) w (.returned v) wr := by
  rw [pick_take a s hk] at h hl
  subst hl
  exact ⟨v, rfl, h, hb⟩

end Go.Proofs.Ytgbcdeahiemhoaa

namespace Go.Proofs.Ytgbcdeahiemhoaa
open Go.RowKit

/-- A table in memory: its rows lie in the blocks blk. -/
def Tab (f : Nat → Nat → Int) (n m T : Nat) (blk : Nat → Nat) (w : World) : Prop :=
  w.rowIs T 24 (n + 1) (fun r => .slice (some ⟨blk r, 0, none⟩) (m + 1) (m + 1)) ∧ ∀ r, r ≤ n → IsRow w (blk r) (m + 1) (f r)
theorem Tab.congr {f f' : Nat → Nat → Int} {n m T : Nat} {blk : Nat → Nat} {w : World} (h : Tab f n m T blk w) (e : ∀ r, r ≤ n → ∀ c, c ≤ m → f r c = f' r c) : Tab f' n m T blk w :=
  ⟨h.1, fun r hr => World.rowIs.congr (h.2 r hr) fun c hc => by rw [e r hr c (by omega)]⟩
theorem Tab.grown {f : Nat → Nat → Int} {n m T r0 : Nat} {blk : Nat → Nat} {w w' : World} {F : Nat → Int} (h : Tab f n m T blk w) (hg : w.grownBy w' (some (blk r0))) (hT : T ≠ blk r0) (hne : ∀ r, r ≤ n → r ≠ r0 → blk r ≠ blk r0) (hr : IsRow w' (blk r0) (m + 1) F) : Tab (fun r c => if r = r0 then F c else f r c) n m T blk w' := by
  refine ⟨rowIs_grown h.1 hg (fun e => hT (by injection e)), fun r hr' => ?_⟩
  by_cases e : r = r0
  · subst e
    simpa using hr
  · have := rowIs_grown (h.2 r hr') hg (fun e' => hne r hr' e (by injection e'))
    show w'.rowIs _ _ _ (fun c => .int .i64 (if r = r0 then F c else f r c))
    simpa [e] using this
theorem Tab.below {f : Nat → Nat → Int} {n m T : Nat} {blk : Nat → Nat} {w w' : World} (h : Tab f n m T blk w) (hb : Below w.heap.size w w') : Tab f n m T blk w' :=
  ⟨h.1.of_block (hb.block _ h.1.lt), fun r hr => (h.2 r hr).of_block (hb.block _ (World.rowIs.lt (h.2 r hr)))⟩
theorem Tab.drew {f : Nat → Nat → Int} {n m T : Nat} {blk : Nat → Nat} {w : World} (h : Tab f n m T blk w) : Tab f n m T blk w.drew := h

/-- What table leaves. -/
def TbMade (n m : Nat) (w : World) (e : Ending) (w' : World) : Prop :=
  e = .returned (.slice (some ⟨w.heap.size, 0, none⟩) (n + 1) (n + 1)) ∧ Tab (fun _ _ => 0) n m w.heap.size (fun r => w.heap.size + 1 + r) w' ∧ Below w.heap.size w w' ∧ w'.heap.size = w.heap.size + 1 + (n + 1)
def TbRel (n m T k : Nat) (wr : World) : Prop :=
  wr.rowIs T 24 (n + 1) (fun r => if r < k then .slice (some ⟨T + 1 + r, 0, none⟩) (m + 1) (m + 1) else .slice none 0 0) ∧ (∀ r, r < k → IsRow wr (T + 1 + r) (m + 1) (fun _ => 0)) ∧ wr.heap.size = T + 1 + k
theorem tb_start (n m : Nat) (w : World) : TbRel n m w.heap.size 0 (w.alloc (.cells (madeCells #[.slice none 0 0] (n + 1)) 24)) :=
  ⟨(World.rowIs_made w _ _ _).congr fun i _ => by simp, fun r h => by omega, by simp⟩
theorem tb_step {n m T k : Nat} {wr : World} (h : TbRel n m T k wr) : TbRel n m T (k + 1) ((wr.alloc (.cells (madeCells #[.int .i64 0] (m + 1)) 3)).setCell ⟨T, k, none⟩ (.slice (some ⟨T + 1 + k, 0, none⟩) (m + 1) (m + 1))) := by
  obtain ⟨h1, h2, h3⟩ := h
  refine ⟨((h1.alloc _).set k _).congr fun i hi => ?_, fun r hr => ?_, by simp [h3]; omega⟩
  · by_cases e : i = k
    · subst e
      rw [if_pos rfl, if_pos (by omega)]
    · rw [if_neg e]
      by_cases g : i < k
      · rw [if_pos g, if_pos (by omega)]
      · rw [if_neg g, if_neg (by omega)]
  · by_cases e : r = k
    · subst e
      have := World.rowIs_made wr (.int .i64 0) (m + 1) 3
      rw [h3] at this
      exact this.setOther (by show T + 1 + r ≠ T; omega) _
    · exact World.rowIs.setOther (World.rowIs.alloc (h2 r (by omega)) _) (by show T + 1 + r ≠ T; omega) _
theorem tb_done {n m T : Nat} {wr : World} (h : TbRel n m T (n + 1) wr) : Tab (fun _ _ => 0) n m T (fun r => T + 1 + r) wr :=
  ⟨h.1.congr fun i hi => by rw [if_pos hi], fun r hr => h.2.1 r (by omega)⟩

end Go.Proofs.Ytgbcdeahiemhoaa
