/-
  Words and contracts that the proof leans on.
-/
import Derived.Test.YtmhnciljbdflcaaM10
import Derived.Test.YtmhnciljbdflcaaM11
import Derived.Test.YtmhnciljbdflcaaM1
namespace Go.Proofs.Ytmhnciljbdflcaa
open Go.RowKit

/-- L of what is ahead of r and c. -/
def px (a b : List Int) (r c : Nat) : Nat := lcs (a.take r) (b.take c)
theorem px_zero_left (a b : List Int) (c : Nat) : px a b 0 c = 0 := by unfold px; rw [List.take_zero, lcs_nil_left]
theorem px_zero_right (a b : List Int) (r : Nat) : px a b r 0 = 0 := by unfold px; rw [List.take_zero, lcs_nil_right]
theorem px_all (a b : List Int) : px a b a.length b.length = lcs a b := by unfold px; rw [List.take_length, List.take_length]
theorem px_le (a b : List Int) (r c : Nat) : px a b r c ≤ a.length := Nat.le_trans (lcs_le_left _ _) (by rw [List.length_take]; omega)
theorem take_snoc {a : List Int} {r : Nat} {x : Int} (h : a[r]? = some x) : a.take (r + 1) = a.take r ++ [x] := by
  obtain ⟨g, e⟩ := List.getElem?_eq_some_iff.1 h
  rw [List.take_succ_eq_append_getElem g, e]
theorem px_same {a b : List Int} {r c : Nat} {x : Int} (h1 : a[r]? = some x) (h2 : b[c]? = some x) : px a b (r + 1) (c + 1) = px a b r c + 1 := by
  unfold px
  rw [take_snoc h1, take_snoc h2, lcs_back]
  rfl
theorem lcs_snoc_other {x y : Int} (h : x ≠ y) (a b : List Int) : lcs (a ++ [x]) (b ++ [y]) = max (lcs a (b ++ [y])) (lcs (a ++ [x]) b) := by
  rw [← lcs_rev (a ++ [x]) (b ++ [y]), ← lcs_rev a (b ++ [y]), ← lcs_rev (a ++ [x]) b]
  simp only [List.reverse_append, List.reverse_cons, List.reverse_nil, List.nil_append, List.singleton_append]
  exact lcs_other h _ _
theorem px_other {a b : List Int} {r c : Nat} {x y : Int} (h1 : a[r]? = some x) (h2 : b[c]? = some y) (hne : x ≠ y) : px a b (r + 1) (c + 1) = max (px a b r (c + 1)) (px a b (r + 1) c) := by
  unfold px
  rw [take_snoc h1, take_snoc h2, lcs_snoc_other hne]

/-- A row from the row below it. -/
theorem fillB_upto {a b : List Int} {i : Nat} {x : Int} {G F : Nat → Int} (hx : a[i]? = some x) (hn : a.length ≤ 1048576) (hG : ∀ c, c ≤ b.length → G c = (lx a b (i + 1) c : Nat)) (hF : F b.length = 0) :
    ∀ k, k ≤ b.length → ∀ c, b.length - k ≤ c → c ≤ b.length → (backs b k).foldl (stepB x G) F c = (lx a b i c : Nat) := by
  intro k
  induction k with
  | zero =>
    intro _ c h1 h2
    obtain rfl : c = b.length := by omega
    rw [lx_end_right a b i _ (Nat.le_refl _)]
    exact hF
  | succ k ih =>
    intro hk c h1 h2
    obtain ⟨j, hj⟩ : ∃ j, j + k + 1 = b.length := ⟨b.length - k - 1, by omega⟩
    have hjl : j < b.length := by omega
    have hy : b[j]? = some b[j] := List.getElem?_eq_getElem hjl
    generalize b[j] = y at *
    rw [backs_succ b hj hy, List.foldl_append, List.foldl_cons, List.foldl_nil]
    have ih' := ih (by omega)
    show (if c = j then (if x = y then IntKind.i64.wrap (G (j + 1) + 1) else (if G j < (backs b k).foldl (stepB x G) F (j + 1) then (backs b k).foldl (stepB x G) F (j + 1) else G j)) else (backs b k).foldl (stepB x G) F c) = _
    by_cases e : c = j
    · subst e
      rw [if_pos rfl]
      by_cases exy : x = y
      · subst exy
        rw [if_pos rfl, hG _ (by omega), lx_same hx hy, IntWalk.i64_in _ (by have := lx_le a b (i + 1) (c + 1); omega)]
        omega
      · rw [if_neg exy, hG c (by omega), ih' (c + 1) (by omega) (by omega), lx_other hx hy exy]
        split <;> omega
    · rw [if_neg e]
      exact ih' c (by omega) h2
theorem fillB_row {a b : List Int} {i : Nat} {x : Int} {G F : Nat → Int} (hx : a[i]? = some x) (hn : a.length ≤ 1048576) (hG : ∀ c, c ≤ b.length → G c = (lx a b (i + 1) c : Nat)) (hF : F b.length = 0) (c : Nat) (hc : c ≤ b.length) : fillB x b G F c = (lx a b i c : Nat) :=
  fillB_upto hx hn hG hF b.length (Nat.le_refl _) c (by omega) hc

/-- A row from the row above it. -/
theorem fillA_upto {a b : List Int} {i : Nat} {x : Int} {G F : Nat → Int} (hx : a[i]? = some x) (hn : a.length ≤ 1048576) (hG : ∀ c, c ≤ b.length → G c = (px a b i c : Nat)) (hF : F 0 = 0) :
    ∀ k, k ≤ b.length → ∀ c, c ≤ k → fillA x b G F k c = (px a b (i + 1) c : Nat) := by
  intro k
  induction k with
  | zero =>
    intro _ c h1
    obtain rfl : c = 0 := by omega
    rw [px_zero_right]
    exact hF
  | succ k ih =>
    intro hk c h1
    have hkl : k < b.length := by omega
    have hy : b[k]? = some b[k] := List.getElem?_eq_getElem hkl
    generalize b[k] = y at *
    have ih' := ih (by omega)
    show (if c = k + 1 then (if x = (b[k]?.getD 0) then IntKind.i64.wrap (G k + 1) else (if G (k + 1) < fillA x b G F k k then fillA x b G F k k else G (k + 1))) else fillA x b G F k c) = _
    rw [hy, Option.getD_some]
    by_cases e : c = k + 1
    · subst e
      rw [if_pos rfl]
      by_cases exy : x = y
      · subst exy
        rw [if_pos rfl, hG _ (by omega), px_same hx hy, IntWalk.i64_in _ (by have := px_le a b i k; omega)]
        omega
      · rw [if_neg exy, hG _ (by omega), ih' k (Nat.le_refl _), px_other hx hy exy]
        split <;> omega
    · rw [if_neg e]
      exact ih' c (by omega)
theorem fillA_row {a b : List Int} {i : Nat} {x : Int} {G F : Nat → Int} (hx : a[i]? = some x) (hn : a.length ≤ 1048576) (hG : ∀ c, c ≤ b.length → G c = (px a b i c : Nat)) (hF : F 0 = 0) (c : Nat) (hc : c ≤ b.length) : fillA x b G F b.length c = (px a b (i + 1) c : Nat) :=
  fillA_upto hx hn hG hF b.length (Nat.le_refl _) c hc

/-- Ahead and behind together are no more, -/
theorem px_lx_le (a b : List Int) (i j : Nat) : px a b i j + lx a b i j ≤ lcs a b := by
  obtain ⟨s, h1, h2, h3⟩ := lcs_has (a.take i) (b.take j)
  obtain ⟨t, k1, k2, k3⟩ := lcs_has (a.drop i) (b.drop j)
  have e1 : (s ++ t).Sublist a := by have := h1.append k1; rwa [List.take_append_drop] at this
  have e2 : (s ++ t).Sublist b := by have := h2.append k2; rwa [List.take_append_drop] at this
  have := lcs_top e1 e2
  rw [List.length_append] at this
  unfold px lx
  omega
/-- and somewhere in each row just as much. -/
theorem px_lx_has (a b : List Int) (i : Nat) : ∃ j, j ≤ b.length ∧ px a b i j + lx a b i j = lcs a b := by
  obtain ⟨s, h1, h2, h3⟩ := lcs_has a b
  rw [← List.take_append_drop i a] at h1
  obtain ⟨s1, s2, rfl, k1, k2⟩ := List.sublist_append_iff.1 h1
  obtain ⟨b1, b2, rfl, l1, l2⟩ := List.append_sublist_iff.1 h2
  refine ⟨b1.length, by simp, ?_⟩
  have e1 : s1.length ≤ px a (b1 ++ b2) i b1.length := by
    unfold px
    refine lcs_top k1 ?_
    simpa using l1
  have e2 : s2.length ≤ lx a (b1 ++ b2) i b1.length := by
    unfold lx
    refine lcs_top k2 ?_
    simpa using l2
  have := px_lx_le a (b1 ++ b2) i b1.length
  rw [List.length_append] at h3
  omega

/-- One number more. -/
theorem lcs_grow_back (x y : List Int) (z : Int) : lcs x y ≤ lcs (x ++ [z]) y ∧ lcs (x ++ [z]) y ≤ lcs x y + 1 ∧ lcs (x ++ [z]) (y ++ [z]) = lcs x y + 1 := by
  refine ⟨lcs_mono (List.sublist_append_left _ _) (List.Sublist.refl _), ?_, by rw [lcs_back]; rfl⟩
  rw [← lcs_rev (x ++ [z]) y, ← lcs_rev x y, List.reverse_append]
  exact lcs_cons_le _ _ _
theorem lcs_grow_front (x y : List Int) (z : Int) : lcs x y ≤ lcs ([z] ++ x) y ∧ lcs ([z] ++ x) y ≤ lcs x y + 1 ∧ lcs ([z] ++ x) ([z] ++ y) = lcs x y + 1 :=
  ⟨lcs_cons_ge _ _ _, lcs_cons_le _ _ _, by rw [lcs_front]; simp only [List.length_singleton]; omega⟩

/-- Of two subsequences of one list what they share. -/
theorem share : ∀ {z s t : List Int}, s.Sublist z → t.Sublist z → ∃ u : List Int, u.Sublist s ∧ u.Sublist t ∧ s.length + t.length ≤ u.length + z.length := by
  intro z
  induction z with
  | nil =>
    intro s t hs ht
    have := List.sublist_nil.1 hs
    have := List.sublist_nil.1 ht
    subst_vars
    exact ⟨[], List.Sublist.refl _, List.Sublist.refl _, by simp⟩
  | cons c z ih =>
    intro s t hs ht
    cases hs with
    | cons _ hs =>
      cases ht with
      | cons _ ht =>
        obtain ⟨u, h1, h2, h3⟩ := ih hs ht
        exact ⟨u, h1, h2, by simp only [List.length_cons]; omega⟩
      | cons_cons _ ht =>
        obtain ⟨u, h1, h2, h3⟩ := ih hs ht
        exact ⟨u, h1, h2.cons _, by simp only [List.length_cons]; omega⟩
    | cons_cons _ hs =>
      cases ht with
      | cons _ ht =>
        obtain ⟨u, h1, h2, h3⟩ := ih hs ht
        exact ⟨u, h1.cons _, h2, by simp only [List.length_cons]; omega⟩
      | cons_cons _ ht =>
        obtain ⟨u, h1, h2, h3⟩ := ih hs ht
        exact ⟨c :: u, h1.cons_cons _, h2.cons_cons _, by simp only [List.length_cons]; omega⟩
theorem lcs_third (x y z : List Int) : lcs x z + lcs z y ≤ lcs x y + z.length := by
  obtain ⟨s, h1, h2, h3⟩ := lcs_has x z
  obtain ⟨t, k1, k2, k3⟩ := lcs_has z y
  obtain ⟨u, l1, l2, l3⟩ := share h2 k1
  have := lcs_top (l1.trans h1) (l2.trans k2)
  omega
/-- How far two lists are from each other. -/
def dist (x y : List Int) : Nat := x.length + y.length - 2 * lcs x y
theorem dist_int (x y : List Int) : ((x.length : Int) + y.length - 2 * (lcs x y : Nat)) = (dist x y : Nat) := by
  have := lcs_le_left x y
  have := lcs_le_right x y
  unfold dist
  omega
theorem dist_comm (x y : List Int) : dist x y = dist y x := by unfold dist; rw [lcs_comm x y]; omega
theorem dist_zero (x y : List Int) : (dist x y = 0) ↔ x = y := by
  have h1 := lcs_le_left x y
  have h2 := lcs_le_right x y
  constructor
  · intro h
    unfold dist at h
    obtain ⟨s, k1, k2, k3⟩ := lcs_has x y
    have e1 := k1.eq_of_length (by omega)
    have e2 := k2.eq_of_length (by omega)
    rw [← e1, ← e2]
  · rintro rfl
    unfold dist
    rw [lcs_self]
    omega
theorem dist_third (x y z : List Int) : dist x y ≤ dist x z + dist z y := by
  have := lcs_third x y z
  have := lcs_le_left x y
  have := lcs_le_right x y
  have := lcs_le_left x z
  have := lcs_le_right x z
  have := lcs_le_left z y
  have := lcs_le_right z y
  unfold dist
  omega
theorem dist_le (x y : List Int) : dist x y ≤ x.length + y.length := by unfold dist; omega

end Go.Proofs.Ytmhnciljbdflcaa

namespace Go.Proofs.Ytmhnciljbdflcaa

theorem take_pad {a : List Int} {r : Nat} (h : a[r]? = none) : a.take (r + 1) = a.take r := by
  have := List.getElem?_eq_none_iff.1 h
  rw [List.take_of_length_le (by omega), List.take_of_length_le this]
theorem px_pad_left {a b : List Int} {r : Nat} (c : Nat) (h : a[r]? = none) : px a b (r + 1) c = px a b r c := by unfold px; rw [take_pad h]
theorem px_pad_right {a b : List Int} {c : Nat} (r : Nat) (h : b[c]? = none) : px a b r (c + 1) = px a b r c := by unfold px; rw [take_pad h]
/-- Steps down columns are 0 or 1. -/
theorem px_v (a b : List Int) (r c : Nat) : px a b r c ≤ px a b (r + 1) c ∧ px a b (r + 1) c ≤ px a b r c + 1 := by
  cases h : a[r]? with
  | none => rw [px_pad_left c h]; omega
  | some x =>
    unfold px
    rw [take_snoc h]
    have := lcs_grow_back (a.take r) (b.take c) x
    omega
theorem px_comm (a b : List Int) (r c : Nat) : px a b r c = px b a c r := by unfold px; rw [lcs_comm]
/-- Steps along rows are 0 or 1. -/
theorem px_h (a b : List Int) (r c : Nat) : px a b r c ≤ px a b r (c + 1) ∧ px a b r (c + 1) ≤ px a b r c + 1 := by
  rw [px_comm a b r c, px_comm a b r (c + 1)]
  exact px_v b a c r
/-- The same number stands at both places. -/
def alikeAt (a b : List Int) (r c : Nat) : Bool := match a[r]?, b[c]? with | some x, some y => x == y | _, _ => false
theorem px_step (a b : List Int) (r c : Nat) : px a b (r + 1) (c + 1) = if alikeAt a b r c = true then px a b r c + 1 else max (px a b r (c + 1)) (px a b (r + 1) c) := by
  unfold alikeAt
  cases h1 : a[r]? with
  | none =>
    simp only [Bool.false_eq_true, if_false]
    rw [px_pad_left (c + 1) h1, px_pad_left c h1]
    have := px_h a b r c
    omega
  | some x =>
    cases h2 : b[c]? with
    | none =>
      simp only [Bool.false_eq_true, if_false]
      rw [px_pad_right (r + 1) h2, px_pad_right r h2]
      have := px_v a b r c
      omega
    | some y =>
      by_cases e : x = y
      · subst e
        simp only [beq_self_eq_true, if_true]
        exact px_same h1 h2
      · have e' : (x == y) = false := by simpa using e
        simp only [e', Bool.false_eq_true, if_false]
        exact px_other h1 h2 e

/-- A square that stands at (i, j) of the table. -/
structure Stands (a b : List Int) (t eq top left i j : Nat) : Prop where
  alike : ∀ r c, r < t → c < t → bitN eq (r * t + c) = if alikeAt a b (i + r) (j + c) = true then 1 else 0
  top : ∀ c, c < t → bitN top c = px a b i (j + c + 1) - px a b i (j + c)
  left : ∀ r, r < t → bitN left r = px a b (i + r + 1) j - px a b (i + r) j
theorem stands_at {a b : List Int} {t eq top left i j : Nat} (h : Stands a b t eq top left i j) : ∀ r c, r ≤ t → c ≤ t → px a b i j + sqN t eq top left r c = px a b (i + r) (j + c)
  | 0, 0, _, _ => by rw [sqN_top]; rfl
  | 0, c + 1, h1, h2 => by
    have := stands_at h 0 c h1 (by omega)
    have e := h.top c (by omega)
    have g := px_h a b i (j + c)
    have e2 : px a b (i + 0) (j + (c + 1)) = px a b i (j + c + 1) := rfl
    have e3 : px a b (i + 0) (j + c) = px a b i (j + c) := rfl
    rw [sqN_top, sumN, ← sqN_top t eq top left, e]
    omega
  | r + 1, 0, h1, h2 => by
    have := stands_at h r 0 (by omega) h2
    have e := h.left r (by omega)
    have g := px_v a b (i + r) j
    have e2 : px a b (i + (r + 1)) (j + 0) = px a b (i + r + 1) j := rfl
    have e3 : px a b (i + r) (j + 0) = px a b (i + r) j := rfl
    rw [sqN_left, sumN, ← sqN_left t eq top left, e]
    omega
  | r + 1, c + 1, h1, h2 => by
    have f1 := stands_at h r c (by omega) (by omega)
    have f2 := stands_at h r (c + 1) (by omega) h2
    have f3 := stands_at h (r + 1) c h1 (by omega)
    have e := h.alike r c (by omega) (by omega)
    rw [← Nat.add_assoc] at f2 f3 ⊢
    have g := px_step a b (i + r) (j + c)
    rw [← Nat.add_assoc, g]
    have q : sqN t eq top left (r + 1) (c + 1) = if bitN eq (r * t + c) = 1 then sqN t eq top left r c + 1 else max (sqN t eq top left r (c + 1)) (sqN t eq top left (r + 1) c) := by
      unfold sqN
      rw [sq_rc]
      simp
    rw [q, e]
    by_cases hh : alikeAt a b (i + r) (j + c) = true
    · simp only [hh, if_true]
      omega
    · rw [if_neg hh, if_neg hh, if_neg (by decide)]
      omega
termination_by r c => (r, c)
theorem stands_bot {a b : List Int} {t eq top left i j : Nat} (h : Stands a b t eq top left i j) {k : Nat} (hk : k < t) : bitN (botN t eq top left) k = px a b (i + t) (j + k + 1) - px a b (i + t) (j + k) := by
  have h1 := stands_at h t k (Nat.le_refl _) (by omega)
  have h2 := stands_at h t (k + 1) (Nat.le_refl _) hk
  unfold botN
  rw [num_bit (botF_le t eq top left) t k hk]
  unfold botF
  rw [← Nat.add_assoc] at h2
  omega
theorem stands_rgt {a b : List Int} {t eq top left i j : Nat} (h : Stands a b t eq top left i j) {k : Nat} (hk : k < t) : bitN (rgtN t eq top left) k = px a b (i + k + 1) (j + t) - px a b (i + k) (j + t) := by
  have h1 := stands_at h k t (by omega) (Nat.le_refl _)
  have h2 := stands_at h (k + 1) t hk (Nat.le_refl _)
  unfold rgtN
  rw [num_bit (rgtF_le t eq top left) t k hk]
  unfold rgtF
  rw [← Nat.add_assoc] at h2
  omega
/-- The steps of a row add up to its last number. -/
theorem px_sum (a b : List Int) (r : Nat) : ∀ c, sumN (fun k => px a b r (k + 1) - px a b r k) c = px a b r c
  | 0 => by rw [px_zero_right]; rfl
  | c + 1 => by have := px_sum a b r c; have := px_h a b r c; rw [sumN]; omega
theorem px_beyond (a b : List Int) {r c : Nat} (hr : a.length ≤ r) (hc : b.length ≤ c) : px a b r c = lcs a b := by unfold px; rw [List.take_of_length_le hr, List.take_of_length_le hc]
/-- How many squares of side t a length takes. -/
def upN (n t : Nat) : Nat := (n + t - 1) / t
theorem upN_ge {n t : Nat} (ht : 1 ≤ t) : n ≤ upN n t * t := by
  unfold upN
  have h1 := Nat.div_add_mod (n + t - 1) t
  have h2 := Nat.mod_lt (n + t - 1) ht
  rw [Nat.mul_comm] at h1
  omega
theorem upN_mono {n m t : Nat} (h : n ≤ m) : upN n t ≤ upN m t := Nat.div_le_div_right (by omega)
theorem upN_le {n s t : Nat} (hs : 1 ≤ s) (h : s ≤ t) : upN n t ≤ upN n s := by
  unfold upN
  rw [Nat.div_le_iff_le_mul_add_pred (by omega)]
  have h1 := upN_ge (n := n) hs
  unfold upN at h1
  have h2 := Nat.mul_le_mul_left ((n + s - 1) / s) h
  rw [Nat.mul_comm t]
  omega

end Go.Proofs.Ytmhnciljbdflcaa

namespace Go.Proofs.Ytmhnciljbdflcaa

/-- How many are less than j. -/
def cntL (t : List Int) (j : Int) : Nat := (t.filter fun x => decide (x < j)).length
theorem cnt_nil (j : Int) : cntL [] j = 0 := rfl
theorem cnt_cons (x : Int) (t : List Int) (j : Int) : cntL (x :: t) j = (if x < j then 1 else 0) + cntL t j := by
  unfold cntL
  rw [List.filter_cons]
  by_cases h : x < j
  · simp [h]; omega
  · simp [h]
theorem cnt_app (t u : List Int) (j : Int) : cntL (t ++ u) j = cntL t j + cntL u j := by
  unfold cntL
  rw [List.filter_append, List.length_append]
theorem cnt_le (t : List Int) (j : Int) : cntL t j ≤ t.length := List.length_filter_le _ _
theorem cnt_mono (t : List Int) {i j : Int} (h : i ≤ j) : cntL t i ≤ cntL t j := by
  induction t with
  | nil => exact Nat.le_refl _
  | cons x t ih =>
    rw [cnt_cons, cnt_cons]
    by_cases h1 : x < i
    · rw [if_pos h1, if_pos (by omega)]; omega
    · rw [if_neg h1]; omega
theorem cnt_zero {t : List Int} {j : Int} (h : ∀ x ∈ t, j ≤ x) : cntL t j = 0 := by
  induction t with
  | nil => rfl
  | cons x t ih =>
    have := h x (by simp)
    rw [cnt_cons, if_neg (by omega), ih fun y hy => h y (by simp [hy])]
theorem cnt_full {t : List Int} {j : Int} (h : ∀ x ∈ t, x < j) : cntL t j = t.length := by
  induction t with
  | nil => rfl
  | cons x t ih =>
    rw [cnt_cons, if_pos (h x (by simp)), ih fun y hy => h y (by simp [hy]), List.length_cons]
    omega

/-- The list rises. -/
def Asc (t : List Int) : Prop := t.Pairwise (· < ·)
theorem asc_cons {x : Int} {t : List Int} : Asc (x :: t) ↔ (∀ y ∈ t, x < y) ∧ Asc t := List.pairwise_cons
/-- Up to number k - 1 it is less, from there on it is not. -/
theorem asc_at {t : List Int} (h : Asc t) (j : Int) : ∀ (k : Nat) (x : Int), t[k]? = some x → (x < j ↔ k < cntL t j) := by
  induction t with
  | nil => intro k x hk; simp at hk
  | cons y t ih =>
    intro k x hk
    obtain ⟨h1, h2⟩ := asc_cons.1 h
    rw [cnt_cons]
    by_cases hy : y < j
    · rw [if_pos hy]
      cases k with
      | zero => simp at hk; subst hk; constructor <;> intro _ <;> omega
      | succ k =>
        have := ih h2 k x (by simpa using hk)
        omega
    · rw [if_neg hy, cnt_zero (fun z hz => by have := h1 z hz; omega)]
      constructor
      · intro hx
        exfalso
        cases k with
        | zero => simp at hk; omega
        | succ k =>
          have := h1 x (List.mem_of_getElem? (by simpa using hk))
          omega
      · intro e; omega
/-- One step further at most one more is less. -/
theorem asc_step {t : List Int} (h : Asc t) (j : Int) : cntL t (j + 1) ≤ cntL t j + 1 := by
  induction t with
  | nil => simp [cnt_nil]
  | cons y t ih =>
    obtain ⟨h1, h2⟩ := asc_cons.1 h
    rw [cnt_cons, cnt_cons]
    have := ih h2
    by_cases e : y < j
    · rw [if_pos e, if_pos (by omega)]; omega
    · rw [if_neg e]
      by_cases e' : y < j + 1
      · rw [if_pos e', cnt_zero (j := j + 1) (fun z hz => by have := h1 z hz; omega)]
        omega
      · rw [if_neg e']; omega
/-- Rising lists are told apart by how many are less. -/
theorem asc_ext : ∀ {t u : List Int}, Asc t → Asc u → (∀ j, cntL t j = cntL u j) → t = u
  | [], [], _, _, _ => rfl
  | [], y :: u, _, _, h => by
    have := h (y + 1)
    rw [cnt_cons, if_pos (by omega), cnt_nil] at this
    omega
  | x :: t, [], _, _, h => by
    have := h (x + 1)
    rw [cnt_cons, if_pos (by omega), cnt_nil] at this
    omega
  | x :: t, y :: u, h1, h2, h => by
    obtain ⟨a1, a2⟩ := asc_cons.1 h1
    obtain ⟨b1, b2⟩ := asc_cons.1 h2
    have e : x = y := by
      rcases Int.lt_trichotomy x y with g | g | g
      · have := h (x + 1)
        rw [cnt_cons, if_pos (by omega), cnt_cons, if_neg (by omega), cnt_zero (t := u) (fun z hz => by have := b1 z hz; omega)] at this
        omega
      · exact g
      · have := h (y + 1)
        rw [cnt_cons, if_neg (by omega), cnt_cons, if_pos (by omega), cnt_zero (t := t) (fun z hz => by have := a1 z hz; omega)] at this
        omega
    subst e
    rw [asc_ext a2 b2 fun j => by have := h j; rw [cnt_cons, cnt_cons] at this; omega]

/-- What Put tells. -/
def putT (t : List Int) (j : Int) : List Int := if cntL t j = t.length then t ++ [j] else t.set (cntL t j) j
/-- The same, by recursion. -/
theorem put_cons {x : Int} {t : List Int} (h : Asc (x :: t)) (j : Int) : putT (x :: t) j = if x < j then x :: putT t j else j :: t := by
  obtain ⟨h1, h2⟩ := asc_cons.1 h
  unfold putT
  rw [cnt_cons]
  by_cases e : x < j
  · rw [if_pos e, if_pos e]
    by_cases g : cntL t j = t.length
    · rw [if_pos (by rw [List.length_cons]; omega), if_pos g]
      rfl
    · rw [if_neg (by rw [List.length_cons]; omega), if_neg g, show 1 + cntL t j = cntL t j + 1 by omega]
      rfl
  · rw [if_neg e, if_neg e, cnt_zero (fun z hz => by have := h1 z hz; omega), if_neg (by simp)]
    rfl
theorem put_nil (j : Int) : putT [] j = [j] := rfl
theorem mem_put {t : List Int} (h : Asc t) {j y : Int} (hy : y ∈ putT t j) : y = j ∨ y ∈ t := by
  induction t with
  | nil => rw [put_nil] at hy; simpa using hy
  | cons x t ih =>
    rw [put_cons h] at hy
    obtain ⟨h1, h2⟩ := asc_cons.1 h
    split at hy
    · rcases List.mem_cons.1 hy with rfl | hy
      · right; simp
      · rcases ih h2 hy with rfl | g
        · left; rfl
        · right; simp [g]
    · rcases List.mem_cons.1 hy with rfl | hy
      · left; rfl
      · right; simp [hy]
theorem asc_put {t : List Int} (h : Asc t) (j : Int) : Asc (putT t j) := by
  induction t with
  | nil => rw [put_nil]; exact List.pairwise_singleton _ _
  | cons x t ih =>
    rw [put_cons h]
    obtain ⟨h1, h2⟩ := asc_cons.1 h
    by_cases e : x < j
    · rw [if_pos e]
      refine asc_cons.2 ⟨fun y hy => ?_, ih h2⟩
      rcases mem_put h2 hy with rfl | g
      · exact e
      · exact h1 y g
    · rw [if_neg e]
      exact asc_cons.2 ⟨fun y hy => by have := h1 y hy; omega, h2⟩
/-- How many are less behind that. -/
theorem cnt_put {t : List Int} (h : Asc t) (s j : Int) : cntL (putT t s) j = if j ≤ s then cntL t j else max (cntL t s + 1) (cntL t j) := by
  induction t with
  | nil =>
    rw [put_nil, cnt_cons]
    simp only [cnt_nil]
    by_cases e : j ≤ s
    · rw [if_neg (by omega), if_pos e]
    · rw [if_pos (by omega), if_neg e]
      omega
  | cons x t ih =>
    rw [put_cons h]
    obtain ⟨h1, h2⟩ := asc_cons.1 h
    have ih := ih h2
    by_cases e : x < s
    · rw [if_pos e, cnt_cons, ih, cnt_cons, cnt_cons, if_pos e]
      by_cases g : j ≤ s
      · rw [if_pos g, if_pos g]
      · rw [if_neg g, if_neg g, if_pos (by omega)]
        omega
    · rw [if_neg e, cnt_cons, cnt_cons, cnt_cons, if_neg e, cnt_zero (t := t) (j := s) (fun z hz => by have := h1 z hz; omega)]
      by_cases g : j ≤ s
      · rw [if_pos g, if_neg (by omega), if_neg (by omega)]
      · rw [if_neg g, if_pos (by omega)]
        by_cases g2 : x < j
        · rw [if_pos g2]; omega
        · rw [if_neg g2, cnt_zero (t := t) (j := j) (fun z hz => by have := h1 z hz; omega)]
          omega
theorem put_length (t : List Int) (j : Int) : t.length ≤ (putT t j).length ∧ (putT t j).length ≤ t.length + 1 := by
  unfold putT
  split
  · rw [List.length_append]; simp
  · rw [List.length_set]; omega
/-- Put again it turns nothing. -/
theorem put_again {t : List Int} (h : Asc t) (j : Int) : putT (putT t j) j = putT t j ∧ cntL (putT t j) j = cntL t j := by
  have e : cntL (putT t j) j = cntL t j := by rw [cnt_put h, if_pos (Int.le_refl _)]
  refine ⟨asc_ext (asc_put (asc_put h j) j) (asc_put h j) fun i => ?_, e⟩
  rw [cnt_put (asc_put h j), e, cnt_put h]
  by_cases g : i ≤ j
  · rw [if_pos g, if_pos g]
  · rw [if_neg g, if_neg g]
    omega

/-- What Row tells. -/
def rowTh (t js : List Int) : List Int := js.foldr (fun j t => putT t j) t
theorem asc_row {t : List Int} (h : Asc t) (js : List Int) : Asc (rowTh t js) := by
  induction js with
  | nil => exact h
  | cons j js ih => exact asc_put ih j
/-- Nothing turns ahead of the first place. -/
theorem row_front {t : List Int} (h : Asc t) {js : List Int} {j : Int} (hj : ∀ s ∈ js, j ≤ s) : cntL (rowTh t js) j = cntL t j := by
  induction js with
  | nil => rfl
  | cons s js ih =>
    show cntL (putT (rowTh t js) s) j = _
    rw [cnt_put (asc_row h js), if_pos (hj s (by simp)), ih fun s hs => hj s (by simp [hs])]
/-- Place by place. -/
theorem row_step {t : List Int} (h : Asc t) : ∀ {js : List Int}, Asc js → ∀ j, cntL (rowTh t js) (j + 1) = if j ∈ js then cntL t j + 1 else max (cntL t (j + 1)) (cntL (rowTh t js) j)
  | [], _, j => by
    have := cnt_mono t (show j ≤ j + 1 by omega)
    rw [if_neg (by simp)]
    show cntL t (j + 1) = max (cntL t (j + 1)) (cntL t j)
    omega
  | s :: js, hs, j => by
    obtain ⟨h1, h2⟩ := asc_cons.1 hs
    have ih := row_step h h2 j
    have hT := asc_row h js
    show cntL (putT (rowTh t js) s) (j + 1) = if j ∈ s :: js then _ else max _ (cntL (putT (rowTh t js) s) j)
    rw [cnt_put hT, cnt_put hT, row_front h (j := s) (fun z hz => by have := h1 z hz; omega), ih]
    rcases Int.lt_trichotomy j s with g | g | g
    · rw [if_pos (show j + 1 ≤ s by omega), if_pos (show j ≤ s by omega)]
      have hn : j ∉ js := fun hm => by have := h1 j hm; omega
      rw [if_neg hn, if_neg (by simp only [List.mem_cons, not_or]; exact ⟨by omega, hn⟩)]
    · subst g
      have hn : j ∉ js := fun hm => by have := h1 j hm; omega
      have e1 := asc_step h j
      rw [if_neg (by omega), if_neg hn, if_pos (by simp), row_front h (j := j) (fun z hz => by have := h1 z hz; omega)]
      omega
    · rw [if_neg (show ¬ j + 1 ≤ s by omega), if_neg (show ¬ j ≤ s by omega)]
      have e1 := cnt_mono t (show s ≤ j by omega)
      by_cases hm : j ∈ js
      · rw [if_pos hm, if_pos (by simp [hm])]
        omega
      · rw [if_neg hm, if_neg (by simp only [List.mem_cons, not_or]; exact ⟨by omega, hm⟩)]
        omega

/-- Where a row goes up. -/
def thrL (F : Nat → Nat) (m : Nat) : List Int := ((List.range m).filter fun j => decide (F j < F (j + 1))).map fun (j : Nat) => (j : Int)
theorem thr_succ (F : Nat → Nat) (m : Nat) : thrL F (m + 1) = thrL F m ++ if F m < F (m + 1) then [(m : Int)] else [] := by
  unfold thrL
  rw [List.range_succ, List.filter_append, List.map_append]
  congr 1
  by_cases h : F m < F (m + 1)
  · simp [h]
  · simp [h]
theorem thr_lt {F : Nat → Nat} {m : Nat} {x : Int} (h : x ∈ thrL F m) : 0 ≤ x ∧ x < (m : Int) := by
  unfold thrL at h
  obtain ⟨j, hj, rfl⟩ := List.mem_map.1 h
  have := List.mem_range.1 (List.mem_filter.1 hj).1
  omega
theorem asc_thr (F : Nat → Nat) : ∀ m, Asc (thrL F m)
  | 0 => List.Pairwise.nil
  | m + 1 => by
    rw [thr_succ]
    refine List.pairwise_append.2 ⟨asc_thr F m, ?_, fun x hx y hy => ?_⟩
    · split
      · exact List.pairwise_singleton _ _
      · exact List.Pairwise.nil
    · split at hy
      · simp at hy
        subst hy
        exact (thr_lt hx).2
      · simp at hy
/-- So many go up as the row does. -/
theorem cnt_thr {F : Nat → Nat} (h0 : F 0 = 0) (h : ∀ j, F j ≤ F (j + 1) ∧ F (j + 1) ≤ F j + 1) : ∀ m j, j ≤ m → cntL (thrL F m) (j : Int) = F j
  | 0, j, hj => by
    obtain rfl : j = 0 := by omega
    rw [h0]
    rfl
  | m + 1, j, hj => by
    rw [thr_succ, cnt_app]
    have hm := h m
    by_cases e : j = m + 1
    · subst e
      rw [cnt_full (fun x hx => by have := (thr_lt hx).2; omega), ← cnt_full (t := thrL F m) (j := (m : Int)) (fun x hx => (thr_lt hx).2), cnt_thr h0 h m m (Nat.le_refl _)]
      split
      · rw [cnt_cons, if_pos (by omega), cnt_nil]; omega
      · rw [cnt_nil]; omega
    · rw [cnt_thr h0 h m j (by omega)]
      split
      · rw [cnt_cons, if_neg (by omega), cnt_nil]; omega
      · rw [cnt_nil]; omega
theorem thr_length {F : Nat → Nat} (h0 : F 0 = 0) (h : ∀ j, F j ≤ F (j + 1) ∧ F (j + 1) ≤ F j + 1) (m : Nat) : (thrL F m).length = F m := by
  rw [← cnt_full (t := thrL F m) (j := (m : Int)) (fun x hx => (thr_lt hx).2), cnt_thr h0 h m m (Nat.le_refl _)]
/-- A number's places. -/
def plcR (x : Int) (b : List Int) : List Int := ((List.range b.length).filter fun j => decide (b[j]? = some x)).map fun (j : Nat) => (j : Int)
theorem mem_plcR {x : Int} {b : List Int} {j : Nat} : (j : Int) ∈ plcR x b ↔ b[j]? = some x := by
  unfold plcR
  rw [List.mem_map]
  constructor
  · rintro ⟨k, hk, e⟩
    obtain rfl : k = j := by omega
    simpa using (List.mem_filter.1 hk).2
  · intro h
    exact ⟨j, List.mem_filter.2 ⟨List.mem_range.2 (List.getElem?_eq_some_iff.1 h).1, by simpa using h⟩, rfl⟩
theorem asc_map_range (p : Nat → Bool) (m : Nat) : Asc (((List.range m).filter p).map fun (j : Nat) => (j : Int)) := by
  refine List.Pairwise.map (R := (· < ·)) _ (fun a b h => by omega) ?_
  exact List.Pairwise.filter _ List.pairwise_lt_range
/-- P15.2. -/
theorem thr_next (a b : List Int) (r : Nat) {x : Int} (hx : a[r]? = some x) : rowTh (thrL (px a b r) b.length) (plcR x b) = thrL (px a b (r + 1)) b.length := by
  have hF : ∀ r j, px a b r j ≤ px a b r (j + 1) ∧ px a b r (j + 1) ≤ px a b r j + 1 := fun r j => px_h a b r j
  have h1 := asc_thr (px a b r) b.length
  have h2 := asc_thr (px a b (r + 1)) b.length
  have h3 : Asc (plcR x b) := asc_map_range _ _
  have e0 : ∀ (t : List Int), (∀ y ∈ t, 0 ≤ y) → ∀ j : Int, j ≤ 0 → cntL t j = 0 := fun t ht j hj => cnt_zero fun y hy => by have := ht y hy; omega
  have n1 : ∀ y ∈ rowTh (thrL (px a b r) b.length) (plcR x b), 0 ≤ y ∧ y < (b.length : Int) := by
    have : ∀ js : List Int, (∀ s ∈ js, 0 ≤ s ∧ s < (b.length : Int)) → ∀ y ∈ rowTh (thrL (px a b r) b.length) js, 0 ≤ y ∧ y < (b.length : Int) := by
      intro js
      induction js with
      | nil => exact fun _ y hy => thr_lt hy
      | cons s js ih =>
        intro hs y hy
        rcases mem_put (asc_row h1 js) hy with rfl | g
        · exact hs _ (by simp)
        · exact ih (fun s h => hs s (by simp [h])) y g
    refine this _ fun s hs => ?_
    unfold plcR at hs
    obtain ⟨k, hk, rfl⟩ := List.mem_map.1 hs
    have := List.mem_range.1 (List.mem_filter.1 hk).1
    omega
  have key : ∀ j : Nat, j ≤ b.length → cntL (rowTh (thrL (px a b r) b.length) (plcR x b)) (j : Int) = px a b (r + 1) j := by
    intro j
    induction j with
    | zero => intro _; rw [px_zero_right]; exact e0 _ (fun y hy => (n1 y hy).1) _ (Int.le_refl _)
    | succ j ih =>
      intro hj
      have hlt : j < b.length := hj
      rw [Int.natCast_succ, row_step h1 h3, ih (by omega), cnt_thr (px_zero_right a b r) (hF r) _ _ (by omega), ← Int.natCast_succ, cnt_thr (px_zero_right a b r) (hF r) _ _ hj]
      have hb : b[j]? = some b[j] := List.getElem?_eq_getElem hlt
      by_cases e : b[j] = x
      · rw [if_pos (mem_plcR.2 (by rw [hb, e])), px_same hx (by rw [hb, e])]
      · rw [if_neg (fun h => e (by have := mem_plcR.1 h; rw [hb] at this; injection this)), px_other hx hb (fun h => e h.symm)]
  refine asc_ext (asc_row h1 _) h2 fun j => ?_
  rcases Int.lt_or_le j 0 with g | g
  · rw [e0 _ (fun y hy => (n1 y hy).1) j (by omega), e0 _ (fun y hy => (thr_lt hy).1) j (by omega)]
  · obtain ⟨k, rfl⟩ := Int.eq_ofNat_of_zero_le g
    by_cases hk : k ≤ b.length
    · rw [key k hk, cnt_thr (px_zero_right a b (r + 1)) (hF (r + 1)) _ _ hk]
    · rw [cnt_full (fun y hy => by have := (n1 y hy).2; omega), cnt_full (fun y hy => by have := (thr_lt hy).2; omega), thr_length (px_zero_right a b (r + 1)) (hF (r + 1)),
        ← key b.length (Nat.le_refl _), cnt_full (fun y hy => (n1 y hy).2)]

end Go.Proofs.Ytmhnciljbdflcaa

namespace Go.Proofs.Ytmhnciljbdflcaa
open Go.RowKit

/-- A row that is told by its places, as a list. -/
def rowL (m : Nat) (F : Nat → Int) : List Int := (List.range (m + 1)).map F
theorem rowL_length (m : Nat) (F : Nat → Int) : (rowL m F).length = m + 1 := by simp [rowL]
theorem rowL_get {m : Nat} {F : Nat → Int} {c : Nat} (h : c ≤ m) : (rowL m F)[c]? = some (F c) := by
  unfold rowL
  rw [List.getElem?_map, List.getElem?_range (by omega)]
  rfl
theorem rowL_congr {m : Nat} {F G : Nat → Int} (h : ∀ c, c ≤ m → F c = G c) : rowL m F = rowL m G := by
  unfold rowL
  refine List.map_congr_left fun c hc => h c ?_
  rw [List.mem_range] at hc
  omega
theorem rowL_ext {l : List Int} {m : Nat} {F : Nat → Int} (hl : l.length = m + 1) (h : ∀ c, c ≤ m → l[c]? = some (F c)) : l = rowL m F := by
  refine List.ext_getElem? fun c => ?_
  rcases Nat.lt_or_ge c (m + 1) with g | g
  · rw [h c (by omega), rowL_get (by omega)]
  · rw [List.getElem?_eq_none (by omega), List.getElem?_eq_none (by rw [rowL_length]; omega)]
theorem rowL_succ (m : Nat) (F : Nat → Int) : rowL (m + 1) F = rowL m F ++ [F (m + 1)] := by
  unfold rowL
  rw [List.range_succ, List.map_append]
  rfl
theorem rowL_zero (F : Nat → Int) : rowL 0 F = [F 0] := rfl

/-- Number c of a list. -/
def nth (l : List Int) (c : Nat) : Int := l[c]?.getD 0
theorem nth_of {l : List Int} {c : Nat} {x : Int} (h : l[c]? = some x) : nth l c = x := by unfold nth; rw [h]; rfl
theorem nth_rowL {m : Nat} {F : Nat → Int} {c : Nat} (h : c ≤ m) : nth (rowL m F) c = F c := nth_of (rowL_get h)

/-- Number c of the next row. -/
def nx (x : Int) (b : List Int) (G : Nat → Int) : Nat → Int
  | 0 => G 0
  | j + 1 => if x = nth b j then IntKind.i64.wrap (G j + 1) else (if G (j + 1) < nx x b G j then nx x b G j else G (j + 1))
def nextL (row : List Int) (x : Int) (b : List Int) : List Int := if row.length = b.length + 1 then rowL b.length (nx x b (nth row)) else []
theorem nextL_fits {row : List Int} {x : Int} {b : List Int} (h : row.length = b.length + 1) : nextL row x b = rowL b.length (nx x b (nth row)) := if_pos h
theorem nextL_not {row : List Int} {x : Int} {b : List Int} (h : row.length ≠ b.length + 1) : nextL row x b = [] := if_neg h
theorem fillA_nx {x : Int} {b : List Int} {G F : Nat → Int} (h0 : F 0 = G 0) : ∀ k c, c ≤ k → fillA x b G F k c = nx x b G c := by
  intro k
  induction k with
  | zero =>
    intro c hc
    obtain rfl : c = 0 := by omega
    exact h0
  | succ k ih =>
    intro c hc
    show (if c = k + 1 then (if x = (b[k]?.getD 0) then IntKind.i64.wrap (G k + 1) else (if G (k + 1) < fillA x b G F k k then fillA x b G F k k else G (k + 1))) else fillA x b G F k c) = _
    by_cases e : c = k + 1
    · subst e
      rw [if_pos rfl, ih k (Nat.le_refl _)]
      rfl
    · rw [if_neg e]
      exact ih c (by omega)

/-- The rows of all of a, from the front, from the back. -/
def frontL (a b : List Int) : List Int := rowL b.length fun c => (px a b a.length c : Nat)
def backL (a b : List Int) : List Int := rowL b.length fun c => (lx a b 0 c : Nat)
theorem frontL_length (a b : List Int) : (frontL a b).length = b.length + 1 := rowL_length _ _
theorem backL_length (a b : List Int) : (backL a b).length = b.length + 1 := rowL_length _ _
theorem frontL_nil (b : List Int) : frontL [] b = rowL b.length fun _ => 0 := rowL_congr fun c _ => by simp [px, lcs_nil_left]
theorem nth_front {a b : List Int} {c : Nat} (h : c ≤ b.length) : nth (frontL a b) c = (lcs a (b.take c) : Nat) := by
  unfold frontL
  rw [nth_rowL h]
  unfold px
  rw [List.take_length]
theorem nth_back {a b : List Int} {c : Nat} (h : c ≤ b.length) : nth (backL a b) c = (lcs a (b.drop c) : Nat) := by
  unfold backL
  rw [nth_rowL h]
  unfold lx
  rw [List.drop_zero]

/-- One number more. -/
theorem front_next {a b : List Int} {i : Nat} {x : Int} (hx : a[i]? = some x) (hn : a.length ≤ 1048576) : nextL (frontL (a.take i) b) x b = frontL (a.take (i + 1)) b := by
  rw [nextL_fits (frontL_length _ _)]
  refine rowL_congr fun c hc => ?_
  have hi : i < a.length := (List.getElem?_eq_some_iff.1 hx).1
  have hp : ∀ r, r ≤ a.length → ∀ c, c ≤ b.length → (px (a.take r) b (a.take r).length c : Nat) = px a b r c := fun r hr c _ => by
    unfold px
    rw [List.take_length]
  have hG : ∀ c, c ≤ b.length → nth (frontL (a.take i) b) c = (px a b i c : Nat) := fun c hc => by
    unfold frontL
    rw [nth_rowL hc, hp i (by omega) c hc]
  rw [← fillA_nx (F := nth (frontL (a.take i) b)) rfl b.length c hc, fillA_row hx hn hG (by rw [hG 0 (Nat.zero_le _), px_zero_right]; rfl) c hc, hp (i + 1) (by omega) c hc]
theorem front_back (a b : List Int) : (frontL a.reverse b.reverse).reverse = backL a b := by
  refine rowL_ext (by rw [List.length_reverse, frontL_length, List.length_reverse]) fun c hc => ?_
  rw [List.getElem?_reverse (by rw [frontL_length, List.length_reverse]; omega), frontL_length, List.length_reverse]
  unfold frontL
  rw [rowL_get (by rw [List.length_reverse]; omega)]
  unfold px lx
  rw [List.take_length, List.drop_zero, show b.length + 1 - 1 - c = b.length - c by omega, List.take_reverse, show b.length - (b.length - c) = c by omega, lcs_rev]

/-- The first place where both together are most, and how much that is, when k are seen. -/
def sumAt (f g : List Int) (c : Nat) : Int := IntKind.i64.wrap (nth f c + nth g c)
def spR (f g : List Int) : Nat → Nat × Int
  | 0 => (0, sumAt f g 0)
  | k + 1 => if (spR f g k).2 < sumAt f g k then (k, sumAt f g k) else spR f g k
theorem spR_is (f g : List Int) : ∀ k, (spR f g k).2 = sumAt f g (spR f g k).1 ∧ ((spR f g k).1 < k ∨ (spR f g k).1 = 0) ∧ (∀ c, c < k → sumAt f g c ≤ (spR f g k).2) ∧ ∀ c, c < (spR f g k).1 → sumAt f g c < (spR f g k).2 := by
  intro k
  induction k with
  | zero => exact ⟨rfl, .inr rfl, fun c h => by omega, fun c h => by simp [spR] at h⟩
  | succ k ih =>
    obtain ⟨h1, h2, h3, h4⟩ := ih
    show ((if (spR f g k).2 < sumAt f g k then (k, sumAt f g k) else spR f g k).2 = sumAt f g (if (spR f g k).2 < sumAt f g k then (k, sumAt f g k) else spR f g k).1) ∧ ((if (spR f g k).2 < sumAt f g k then (k, sumAt f g k) else spR f g k).1 < k + 1 ∨ (if (spR f g k).2 < sumAt f g k then (k, sumAt f g k) else spR f g k).1 = 0) ∧ (∀ c, c < k + 1 → sumAt f g c ≤ (if (spR f g k).2 < sumAt f g k then (k, sumAt f g k) else spR f g k).2) ∧ ∀ c, c < (if (spR f g k).2 < sumAt f g k then (k, sumAt f g k) else spR f g k).1 → sumAt f g c < (if (spR f g k).2 < sumAt f g k then (k, sumAt f g k) else spR f g k).2
    by_cases e : (spR f g k).2 < sumAt f g k
    · rw [if_pos e]
      refine ⟨rfl, .inl (by show k < k + 1; omega), fun c hc => ?_, fun c hc => ?_⟩
      · show sumAt f g c ≤ sumAt f g k
        by_cases e' : c = k
        · subst e'; omega
        · have := h3 c (by omega); omega
      · have : c < k := hc
        have := h3 c this
        show sumAt f g c < sumAt f g k
        omega
    · rw [if_neg e]
      refine ⟨h1, h2.imp (fun h => by omega) id, fun c hc => ?_, h4⟩
      by_cases e' : c = k
      · subst e'; omega
      · exact h3 c (by omega)
/-- What Split tells. -/
def splitL (f g : List Int) : Nat × Int := if f.length = 0 ∨ f.length ≠ g.length then (0, 0) else spR f g f.length
theorem split_meet {a b : List Int} {i : Nat} (hn : a.length ≤ 1048576) : let s := splitL (frontL (a.take i) b) (backL (a.drop i) b)
    s.1 ≤ b.length ∧ s.2 = (lcs a b : Nat) ∧ lcs (a.take i) (b.take s.1) + lcs (a.drop i) (b.drop s.1) = lcs a b := by
  intro s
  have hs : s = spR (frontL (a.take i) b) (backL (a.drop i) b) (b.length + 1) := by
    show splitL _ _ = _
    unfold splitL
    rw [if_neg (by rw [frontL_length, backL_length]; omega), frontL_length]
  have hS : ∀ c, c ≤ b.length → sumAt (frontL (a.take i) b) (backL (a.drop i) b) c = ((px a b i c + lx a b i c : Nat) : Int) := fun c hc => by
    unfold sumAt
    rw [nth_front hc, nth_back hc]
    have := px_lx_le a b i c
    have := lcs_le_left a b
    unfold px lx at *
    rw [IntWalk.i64_in _ (by omega)]
    omega
  obtain ⟨h1, h2, h3, _⟩ := spR_is (frontL (a.take i) b) (backL (a.drop i) b) (b.length + 1)
  rw [← hs] at h1 h2 h3
  have h0 : s.1 ≤ b.length := by omega
  rw [hS _ h0] at h1
  obtain ⟨j, hj, e⟩ := px_lx_has a b i
  have h4 := h3 j (by omega)
  rw [hS j hj, e, h1] at h4
  have h5 := px_lx_le a b i s.1
  have h6 : px a b i s.1 + lx a b i s.1 = lcs a b := by omega
  exact ⟨h0, by rw [h1, h6], h6⟩

end Go.Proofs.Ytmhnciljbdflcaa

namespace Go.Proofs.Ytmhnciljbdflcaa
open Go.RowKit

/-! ### Turned -/
/-- The numbers from place r on, turned round. -/
def TuRel (l : List Int) (w : World) (v i : Value) (wr : World) : Prop :=
  (∃ r t : Nat, r + t + 1 = l.length ∧ i = .int .i64 (r : Int) ∧ wr.ownsRow w.heap.size 3 1 v t (iv (l.drop (r + 1)).reverse) ∧ Below w.heap.size w wr) ∨ (i = .int .i64 (-1) ∧ wr.ownsRow w.heap.size 3 1 v l.length (iv l.reverse) ∧ Below w.heap.size w wr)
theorem tu_start {l : List Int} {w : World} {x : Int} (hx : x = (l.length : Int) - 1) : TuRel l w (.slice none 0 0) (.int .i64 x) w := by
  subst hx
  cases h : l.length with
  | zero =>
    have := List.eq_nil_of_length_eq_zero h
    subst this
    exact .inr ⟨by simp, by simpa [iv] using World.ownsRow_nil w _ _ _, Below.refl _ _⟩
  | succ n => exact .inl ⟨n, 0, by omega, by congr 1; omega, by rw [List.drop_of_length_le (by omega)]; exact World.ownsRow_nil _ _ _ _, Below.refl _ _⟩
theorem tu_next {l : List Int} {w wr : World} {v : Value} {r t : Nat} {x y : Int} (hr : r + t + 1 = l.length) (hx : l[r]? = some x) (hy : y = (r : Int) - 1) (h : wr.ownsRow w.heap.size 3 1 v (t + 1) (iv (l.drop (r + 1)).reverse ++ [.int .i64 x])) (hb : Below w.heap.size w wr) : TuRel l w v (.int .i64 y) wr := by
  subst hy
  have e : iv (l.drop r).reverse = iv (l.drop (r + 1)).reverse ++ [.int .i64 x] := by
    obtain ⟨g, e⟩ := List.getElem?_eq_some_iff.1 hx
    rw [List.drop_eq_getElem_cons g, e, List.reverse_cons, iv_append]
    rfl
  cases r with
  | zero => exact .inr ⟨by simp, by rw [← hr, show 0 + t + 1 = t + 1 by omega]; rw [List.drop_zero] at e; rw [e]; exact h, hb⟩
  | succ r => exact .inl ⟨r, t + 1, by omega, by congr 1; omega, by rw [e]; exact h, hb⟩

set_option maxHeartbeats 800000 in
theorem turned_any (A : Option Addr) (N c : Nat) (l : List Int) (w : World) (hN : l.length = N) (hb : N ≤ 1048576) (hr : Row w A (iv l)) :
    Calls Try.prog 30 #[.slice A N c] w (MadeI l.reverse w) := by
  subst hN
  obtain ⟨i0, hi, hz0, hz1, hz2⟩ := info_parts Try.infoInt
  go_enter Try.func30, Try.ntmps30
  go_wp2_with fail
  go_loopw [3, 4] (fun v i wr => TuRel l w v i wr) (fun _ i _ => (intOf i + 1).toNat)
  case atStart => exact tu_start (by omega)
  case round =>
    rcases hrel with ⟨r, t, hrt, rfl, hwn, hbr⟩ | ⟨rfl, hwn, hbr⟩
    · have hlt : r < l.length := by omega
      obtain ⟨g, o, rfl, hc⟩ := (hr.below hbr).int hlt
      have HX : Hid (l[r]? = some l[r]) := List.getElem?_eq_getElem hlt
      generalize l[r] = x at *
      have hsz := hbr.size
      have HB := Lib.hid hbr
      clear hr
      go_wp2_with (at_builtin; refine wpList_append_own _ rfl (.tmp 12) (.tmp 17) 25 rfl w.heap.size 3 i0 (.int .i64 0) 1 8 Try.underlying25 hi hz0 hz1 hz2 rfl (by decide) _ _ _ rfl (hwn.alloc _) ⟨wr.heap.size, 0, none⟩ 1 1 [_] rfl rfl (cell_one_new _ _ _) (one_int _ _) (by unfold maxLen; omega) (by omega) (by simp; omega) ?_)
      intro v' w3 hown' hg' _
      have R := Lib.hid (fun y hy => tu_next (y := y) hrt HX.out hy hown' ((HB.out.alloc (by omega) _).grown hg' (by simp; omega) (fun x hx => (hwn.lt x hx).1)))
      clear hown' hg' hwn hbr
      go_wp2_with fail
      go_roundw
      case rel => exact R.out _ (by omega)
      case measure => simp [intOf]
    · have HF : Hid (MadeI l.reverse w (.returned u3) wr) := ⟨u3, rfl, by rw [List.length_reverse]; exact hwn, hbr⟩
      clear hwn hbr
      go_wp2_with fail
      go_ret
      exact HF.out

/-! ### Dist -/
/-! ### Picked -/
def bvs (l : List Bool) : List Value := l.map Value.bool
theorem bvs_length (l : List Bool) : (bvs l).length = l.length := by simp [bvs]
theorem Row.bool {w : World} {A : Option Addr} {l : List Bool} (h : Row w A (bvs l)) {k : Nat} (hk : k < l.length) : ∃ g o, A = some ⟨g, o, none⟩ ∧ w.cell? ⟨g, o + k, none⟩ = some (.bool l[k]) := by
  obtain ⟨g, o, e, hc⟩ := h.at_ k (by simpa [bvs] using hk)
  exact ⟨g, o, e, by rw [hc]; simp [bvs]⟩
/-- Those whose bits are 1. -/
def pick : List Int → List Bool → List Int
  | x :: a, true :: s => x :: pick a s
  | _ :: a, false :: s => pick a s
  | _, _ => []
theorem pick_sub : ∀ (a : List Int) (s : List Bool), (pick a s).Sublist a
  | [], _ => List.Sublist.refl _
  | _ :: _, [] => List.nil_sublist _
  | x :: a, true :: s => (pick_sub a s).cons_cons x
  | x :: a, false :: s => (pick_sub a s).cons x
theorem pick_nil (a : List Int) : pick a [] = [] := by cases a <;> rfl
theorem pick_step : ∀ {a : List Int} {s : List Bool} {k : Nat} {x : Int} {t : Bool}, a[k]? = some x → s[k]? = some t → pick (a.take (k + 1)) (s.take (k + 1)) = pick (a.take k) (s.take k) ++ (if t then [x] else [])
  | y :: a, u :: s, 0, x, t, h1, h2 => by
    simp at h1 h2
    subst h1
    subst h2
    cases u <;> simp [pick, pick_nil]
  | y :: a, u :: s, k + 1, x, t, h1, h2 => by
    have ih := pick_step (a := a) (s := s) (k := k) (by simpa using h1) (by simpa using h2)
    simp only [List.take_succ_cons]
    cases u
    · simpa [pick] using ih
    · simpa [pick] using ih
  | [], _, _, _, _, h1, _ => by simp at h1
  | _ :: _, [], _, _, _, _, h2 => by simp at h2
theorem pick_take (a : List Int) (s : List Bool) {k : Nat} (h : a.length ≤ k ∨ s.length ≤ k) : pick (a.take k) (s.take k) = pick a s := by
  induction a generalizing s k with
  | nil => simp [pick]
  | cons x a ih =>
    cases s with
    | nil => rw [List.take_nil, pick_nil, pick_nil]
    | cons t s =>
      cases k with
      | zero => simp at h
      | succ k =>
        have := ih s (k := k) (by simpa using h)
        simp only [List.take_succ_cons]
        cases t
        · simpa [pick] using this
        · simpa [pick] using this

def PkRel (a : List Int) (s : List Bool) (w : World) (v i : Value) (wr : World) : Prop :=
  ∃ k t : Nat, k ≤ a.length ∧ t ≤ k ∧ i = .int .i64 (k : Int) ∧ Hid ((pick (a.take k) (s.take k)).length = t) ∧ wr.ownsRow w.heap.size 3 1 v t (iv (pick (a.take k) (s.take k))) ∧ Below w.heap.size w wr
theorem pk_skip {a : List Int} {s : List Bool} {w wr : World} {v : Value} {k t : Nat} {x : Int} (hk : k < a.length) (ht : t ≤ k) (h1 : a[k]? = some x) (h2 : s[k]? = some false) (hl : (pick (a.take k) (s.take k)).length = t) (h : wr.ownsRow w.heap.size 3 1 v t (iv (pick (a.take k) (s.take k)))) (hb : Below w.heap.size w wr) : PkRel a s w v (.int .i64 (k + 1 : Nat)) wr := by
  have e := pick_step h1 h2
  simp only [Bool.false_eq_true, if_false, List.append_nil] at e
  exact ⟨k + 1, t, by omega, by omega, rfl, by show _ = _; rw [e, hl], by rw [e]; exact h, hb⟩
theorem pk_put {a : List Int} {s : List Bool} {w wr : World} {v : Value} {k t : Nat} {x : Int} (hk : k < a.length) (ht : t ≤ k) (h1 : a[k]? = some x) (h2 : s[k]? = some true) (hl : (pick (a.take k) (s.take k)).length = t) (h : wr.ownsRow w.heap.size 3 1 v (t + 1) (iv (pick (a.take k) (s.take k)) ++ [.int .i64 x])) (hb : Below w.heap.size w wr) : PkRel a s w v (.int .i64 (k + 1 : Nat)) wr := by
  have e := pick_step h1 h2
  simp only [if_true] at e
  exact ⟨k + 1, t + 1, by omega, by omega, rfl, by show _ = _; rw [e, List.length_append, hl]; rfl, by rw [e, iv_append]; exact h, hb⟩
theorem pk_done {a : List Int} {s : List Bool} {w wr : World} {v : Value} {k t : Nat} (hk : a.length ≤ k ∨ s.length ≤ k) (hl : (pick (a.take k) (s.take k)).length = t) (h : wr.ownsRow w.heap.size 3 1 v t (iv (pick (a.take k) (s.take k)))) (hb : Below w.heap.size w wr) : MadeI (pick a s) w (.returned v) wr := by
  rw [pick_take a s hk] at h hl
  subst hl
  exact ⟨v, rfl, h, hb⟩

end Go.Proofs.Ytmhnciljbdflcaa

namespace Go.Proofs.Ytmhnciljbdflcaa
open Go.RowKit

/-- A table in memory: its rows lie in the blocks blk. -/
def Tab (f : Nat → Nat → Int) (n m T : Nat) (blk : Nat → Nat) (w : World) : Prop :=
  w.rowIs T 25 (n + 1) (fun r => .slice (some ⟨blk r, 0, none⟩) (m + 1) (m + 1)) ∧ ∀ r, r ≤ n → IsRow w (blk r) (m + 1) (f r)
theorem Tab.congr {f f' : Nat → Nat → Int} {n m T : Nat} {blk : Nat → Nat} {w : World} (h : Tab f n m T blk w) (e : ∀ r, r ≤ n → ∀ c, c ≤ m → f r c = f' r c) : Tab f' n m T blk w :=
  ⟨h.1, fun r hr => World.rowIs.congr (h.2 r hr) fun c hc => by rw [e r hr c (by omega)]⟩
theorem Tab.grown {f : Nat → Nat → Int} {n m T r0 : Nat} {blk : Nat → Nat} {w w' : World} {F : Nat → Int} (h : Tab f n m T blk w) (hg : w.grownBy w' (some (blk r0))) (hT : T ≠ blk r0) (hne : ∀ r, r ≤ n → r ≠ r0 → blk r ≠ blk r0) (hr : IsRow w' (blk r0) (m + 1) F) : Tab (fun r c => if r = r0 then F c else f r c) n m T blk w' := by
  refine ⟨rowIs_grown h.1 hg (fun e => hT (by injection e)), fun r hr' => ?_⟩
  by_cases e : r = r0
  · subst e
    simpa using hr
  · have := rowIs_grown (h.2 r hr') hg (fun e' => hne r hr' e (by injection e'))
    show w'.rowIs _ _ _ (fun c => .int .i64 (if r = r0 then F c else f r c))
    simpa [e] using this
theorem Tab.below {f : Nat → Nat → Int} {n m T : Nat} {blk : Nat → Nat} {w w' : World} (h : Tab f n m T blk w) (hb : Below w.heap.size w w') : Tab f n m T blk w' :=
  ⟨h.1.of_block (hb.block _ h.1.lt), fun r hr => (h.2 r hr).of_block (hb.block _ (World.rowIs.lt (h.2 r hr)))⟩
theorem Tab.drew {f : Nat → Nat → Int} {n m T : Nat} {blk : Nat → Nat} {w : World} (h : Tab f n m T blk w) : Tab f n m T blk w.drew := h

/-- What table leaves. -/
def TbMade (n m : Nat) (w : World) (e : Ending) (w' : World) : Prop :=
  e = .returned (.slice (some ⟨w.heap.size, 0, none⟩) (n + 1) (n + 1)) ∧ Tab (fun _ _ => 0) n m w.heap.size (fun r => w.heap.size + 1 + r) w' ∧ Below w.heap.size w w' ∧ w'.heap.size = w.heap.size + 1 + (n + 1)
def TbRel (n m T k : Nat) (wr : World) : Prop :=
  wr.rowIs T 25 (n + 1) (fun r => if r < k then .slice (some ⟨T + 1 + r, 0, none⟩) (m + 1) (m + 1) else .slice none 0 0) ∧ (∀ r, r < k → IsRow wr (T + 1 + r) (m + 1) (fun _ => 0)) ∧ wr.heap.size = T + 1 + k
theorem tb_start (n m : Nat) (w : World) : TbRel n m w.heap.size 0 (w.alloc (.cells (madeCells #[.slice none 0 0] (n + 1)) 25)) :=
  ⟨(World.rowIs_made w _ _ _).congr fun i _ => by simp, fun r h => by omega, by simp⟩
theorem tb_step {n m T k : Nat} {wr : World} (h : TbRel n m T k wr) : TbRel n m T (k + 1) ((wr.alloc (.cells (madeCells #[.int .i64 0] (m + 1)) 3)).setCell ⟨T, k, none⟩ (.slice (some ⟨T + 1 + k, 0, none⟩) (m + 1) (m + 1))) := by
  obtain ⟨h1, h2, h3⟩ := h
  refine ⟨((h1.alloc _).set k _).congr fun i hi => ?_, fun r hr => ?_, by simp [h3]; omega⟩
  · by_cases e : i = k
    · subst e
      rw [if_pos rfl, if_pos (by omega)]
    · rw [if_neg e]
      by_cases g : i < k
      · rw [if_pos g, if_pos (by omega)]
      · rw [if_neg g, if_neg (by omega)]
  · by_cases e : r = k
    · subst e
      have := World.rowIs_made wr (.int .i64 0) (m + 1) 3
      rw [h3] at this
      exact this.setOther (by show T + 1 + r ≠ T; omega) _
    · exact World.rowIs.setOther (World.rowIs.alloc (h2 r (by omega)) _) (by show T + 1 + r ≠ T; omega) _
theorem tb_done {n m T : Nat} {wr : World} (h : TbRel n m T (n + 1) wr) : Tab (fun _ _ => 0) n m T (fun r => T + 1 + r) wr :=
  ⟨h.1.congr fun i hi => by rw [if_pos hi], fun r hr => h.2.1 r (by omega)⟩

end Go.Proofs.Ytmhnciljbdflcaa
