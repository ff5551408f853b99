/-
  Words and contracts that the proof leans on.
-/
import Derived.Test.YtdedmmeefffpkaaM10
import Derived.Test.YtdedmmeefffpkaaM11
import Derived.Test.YtdedmmeefffpkaaM1
import Derived.Test.YtdedmmeefffpkaaM8
namespace Go.Proofs.Ytdedmmeefffpkaa
open Go.RowKit

/-- L of what is ahead of r and c. -/
def px (a b : List Int) (r c : Nat) : Nat := lcs (a.take r) (b.take c)
theorem px_zero_left (a b : List Int) (c : Nat) : px a b 0 c = 0 := by unfold px; rw [List.take_zero, lcs_nil_left]
theorem px_zero_right (a b : List Int) (r : Nat) : px a b r 0 = 0 := by unfold px; rw [List.take_zero, lcs_nil_right]
theorem px_all (a b : List Int) : px a b a.length b.length = lcs a b := by unfold px; rw [List.take_length, List.take_length]
theorem px_le (a b : List Int) (r c : Nat) : px a b r c ≤ a.length := Nat.le_trans (lcs_le_left _ _) (by rw [List.length_take]; omega)
theorem take_snoc {a : List Int} {r : Nat} {x : Int} (h : a[r]? = some x) : a.take (r + 1) = a.take r ++ [x] := by
  obtain ⟨g, e⟩ := List.getElem?_eq_some_iff.1 h
  rw [List.take_succ_eq_append_getElem g, e]
theorem px_same {a b : List Int} {r c : Nat} {x : Int} (h1 : a[r]? = some x) (h2 : b[c]? = some x) : px a b (r + 1) (c + 1) = px a b r c + 1 := by
  unfold px
  rw [take_snoc h1, take_snoc h2, lcs_back]
  rfl
theorem lcs_snoc_other {x y : Int} (h : x ≠ y) (a b : List Int) : lcs (a ++ [x]) (b ++ [y]) = max (lcs a (b ++ [y])) (lcs (a ++ [x]) b) := by
  rw [← lcs_rev (a ++ [x]) (b ++ [y]), ← lcs_rev a (b ++ [y]), ← lcs_rev (a ++ [x]) b]
  simp only [List.reverse_append, List.reverse_cons, List.reverse_nil, List.nil_append, List.singleton_append]
  exact lcs_other h _ _
theorem px_other {a b : List Int} {r c : Nat} {x y : Int} (h1 : a[r]? = some x) (h2 : b[c]? = some y) (hne : x ≠ y) : px a b (r + 1) (c + 1) = max (px a b r (c + 1)) (px a b (r + 1) c) := by
  unfold px
  rw [take_snoc h1, take_snoc h2, lcs_snoc_other hne]

/-- A row from the row below it. -/
theorem fillB_upto {a b : List Int} {i : Nat} {x : Int} {G F : Nat → Int} (hx : a[i]? = some x) (hn : a.length ≤ 1048576) (hG : ∀ c, c ≤ b.length → G c = (lx a b (i + 1) c : Nat)) (hF : F b.length = 0) :
    ∀ k, k ≤ b.length → ∀ c, b.length - k ≤ c → c ≤ b.length → (backs b k).foldl (stepB x G) F c = (lx a b i c : Nat) := by
  intro k
  induction k with
  | zero =>
    intro _ c h1 h2
    obtain rfl : c = b.length := by omega
    rw [lx_end_right a b i _ (Nat.le_refl _)]
    exact hF
  | succ k ih =>
    intro hk c h1 h2
    obtain ⟨j, hj⟩ : ∃ j, j + k + 1 = b.length := ⟨b.length - k - 1, by omega⟩
    have hjl : j < b.length := by omega
    have hy : b[j]? = some b[j] := List.getElem?_eq_getElem hjl
    generalize b[j] = y at *
    rw [backs_succ b hj hy, List.foldl_append, List.foldl_cons, List.foldl_nil]
    have ih' := ih (by omega)
    show (if c = j then (if x = y then IntKind.i64.wrap (G (j + 1) + 1) else (if G j < (backs b k).foldl (stepB x G) F (j + 1) then (backs b k).foldl (stepB x G) F (j + 1) else G j)) else (backs b k).foldl (stepB x G) F c) = _
    by_cases e : c = j
    · subst e
      rw [if_pos rfl]
      by_cases exy : x = y
      · subst exy
        rw [if_pos rfl, hG _ (by omega), lx_same hx hy, IntWalk.i64_in _ (by have := lx_le a b (i + 1) (c + 1); omega)]
        omega
      · rw [if_neg exy, hG c (by omega), ih' (c + 1) (by omega) (by omega), lx_other hx hy exy]
        split <;> omega
    · rw [if_neg e]
      exact ih' c (by omega) h2
theorem fillB_row {a b : List Int} {i : Nat} {x : Int} {G F : Nat → Int} (hx : a[i]? = some x) (hn : a.length ≤ 1048576) (hG : ∀ c, c ≤ b.length → G c = (lx a b (i + 1) c : Nat)) (hF : F b.length = 0) (c : Nat) (hc : c ≤ b.length) : fillB x b G F c = (lx a b i c : Nat) :=
  fillB_upto hx hn hG hF b.length (Nat.le_refl _) c (by omega) hc

/-- A row from the row above it. -/
theorem fillA_upto {a b : List Int} {i : Nat} {x : Int} {G F : Nat → Int} (hx : a[i]? = some x) (hn : a.length ≤ 1048576) (hG : ∀ c, c ≤ b.length → G c = (px a b i c : Nat)) (hF : F 0 = 0) :
    ∀ k, k ≤ b.length → ∀ c, c ≤ k → fillA x b G F k c = (px a b (i + 1) c : Nat) := by
  intro k
  induction k with
  | zero =>
    intro _ c h1
    obtain rfl : c = 0 := by omega
    rw [px_zero_right]
    exact hF
  | succ k ih =>
    intro hk c h1
    have hkl : k < b.length := by omega
    have hy : b[k]? = some b[k] := List.getElem?_eq_getElem hkl
    generalize b[k] = y at *
    have ih' := ih (by omega)
    show (if c = k + 1 then (if x = (b[k]?.getD 0) then IntKind.i64.wrap (G k + 1) else (if G (k + 1) < fillA x b G F k k then fillA x b G F k k else G (k + 1))) else fillA x b G F k c) = _
    rw [hy, Option.getD_some]
    by_cases e : c = k + 1
    · subst e
      rw [if_pos rfl]
      by_cases exy : x = y
      · subst exy
        rw [if_pos rfl, hG _ (by omega), px_same hx hy, IntWalk.i64_in _ (by have := px_le a b i k; omega)]
        omega
      · rw [if_neg exy, hG _ (by omega), ih' k (Nat.le_refl _), px_other hx hy exy]
        split <;> omega
    · rw [if_neg e]
      exact ih' c (by omega)
theorem fillA_row {a b : List Int} {i : Nat} {x : Int} {G F : Nat → Int} (hx : a[i]? = some x) (hn : a.length ≤ 1048576) (hG : ∀ c, c ≤ b.length → G c = (px a b i c : Nat)) (hF : F 0 = 0) (c : Nat) (hc : c ≤ b.length) : fillA x b G F b.length c = (px a b (i + 1) c : Nat) :=
  fillA_upto hx hn hG hF b.length (Nat.le_refl _) c hc

/-- Ahead and behind together are no more, -/
theorem px_lx_le (a b : List Int) (i j : Nat) : px a b i j + lx a b i j ≤ lcs a b := by
  obtain ⟨s, h1, h2, h3⟩ := lcs_has (a.take i) (b.take j)
  obtain ⟨t, k1, k2, k3⟩ := lcs_has (a.drop i) (b.drop j)
  have e1 : (s ++ t).Sublist a := by have := h1.append k1; rwa [List.take_append_drop] at this
  have e2 : (s ++ t).Sublist b := by have := h2.append k2; rwa [List.take_append_drop] at this
  have := lcs_top e1 e2
  rw [List.length_append] at this
  unfold px lx
  omega
/-- and somewhere in each row just as much. -/
theorem px_lx_has (a b : List Int) (i : Nat) : ∃ j, j ≤ b.length ∧ px a b i j + lx a b i j = lcs a b := by
  obtain ⟨s, h1, h2, h3⟩ := lcs_has a b
  rw [← List.take_append_drop i a] at h1
  obtain ⟨s1, s2, rfl, k1, k2⟩ := List.sublist_append_iff.1 h1
  obtain ⟨b1, b2, rfl, l1, l2⟩ := List.append_sublist_iff.1 h2
  refine ⟨b1.length, by simp, ?_⟩
  have e1 : s1.length ≤ px a (b1 ++ b2) i b1.length := by
    unfold px
    refine lcs_top k1 ?_
    simpa using l1
  have e2 : s2.length ≤ lx a (b1 ++ b2) i b1.length := by
    unfold lx
    refine lcs_top k2 ?_
    simpa using l2
  have := px_lx_le a (b1 ++ b2) i b1.length
  rw [List.length_append] at h3
  omega

/-- One number more. -/
theorem lcs_grow_back (x y : List Int) (z : Int) : lcs x y ≤ lcs (x ++ [z]) y ∧ lcs (x ++ [z]) y ≤ lcs x y + 1 ∧ lcs (x ++ [z]) (y ++ [z]) = lcs x y + 1 := by
  refine ⟨lcs_mono (List.sublist_append_left _ _) (List.Sublist.refl _), ?_, by rw [lcs_back]; rfl⟩
  rw [← lcs_rev (x ++ [z]) y, ← lcs_rev x y, List.reverse_append]
  exact lcs_cons_le _ _ _
theorem lcs_grow_front (x y : List Int) (z : Int) : lcs x y ≤ lcs ([z] ++ x) y ∧ lcs ([z] ++ x) y ≤ lcs x y + 1 ∧ lcs ([z] ++ x) ([z] ++ y) = lcs x y + 1 :=
  ⟨lcs_cons_ge _ _ _, lcs_cons_le _ _ _, by rw [lcs_front]; simp only [List.length_singleton]; omega⟩

/-- Of two subsequences of one list what they share. -/
theorem share : ∀ {z s t : List Int}, s.Sublist z → t.Sublist z → ∃ u : List Int, u.Sublist s ∧ u.Sublist t ∧ s.length + t.length ≤ u.length + z.length := by
  intro z
  induction z with
  | nil =>
    intro s t hs ht
    have := List.sublist_nil.1 hs
    have := List.sublist_nil.1 ht
    subst_vars
    exact ⟨[], List.Sublist.refl _, List.Sublist.refl _, by simp⟩
  | cons c z ih =>
    intro s t hs ht
    cases hs with
    | cons _ hs =>
      cases ht with
      | cons _ ht =>
        obtain ⟨u, h1, h2, h3⟩ := ih hs ht
        exact ⟨u, h1, h2, by simp only [List.length_cons]; omega⟩
      | cons_cons _ ht =>
        obtain ⟨u, h1, h2, h3⟩ := ih hs ht
        exact ⟨u, h1, h2.cons _, by simp only [List.length_cons]; omega⟩
    | cons_cons _ hs =>
      cases ht with
      | cons _ ht =>
        obtain ⟨u, h1, h2, h3⟩ := ih hs ht
        exact ⟨u, h1.cons _, h2, by simp only [List.length_cons]; omega⟩
      | cons_cons _ ht =>
        obtain ⟨u, h1, h2, h3⟩ := ih hs ht
        exact ⟨c :: u, h1.cons_cons _, h2.cons_cons _, by simp only [List.length_cons]; omega⟩
theorem lcs_third (x y z : List Int) : lcs x z + lcs z y ≤ lcs x y + z.length := by
  obtain ⟨s, h1, h2, h3⟩ := lcs_has x z
  obtain ⟨t, k1, k2, k3⟩ := lcs_has z y
  obtain ⟨u, l1, l2, l3⟩ := share h2 k1
  have := lcs_top (l1.trans h1) (l2.trans k2)
  omega
/-- How far two lists are from each other. -/
def dist (x y : List Int) : Nat := x.length + y.length - 2 * lcs x y
theorem dist_int (x y : List Int) : ((x.length : Int) + y.length - 2 * (lcs x y : Nat)) = (dist x y : Nat) := by
  have := lcs_le_left x y
  have := lcs_le_right x y
  unfold dist
  omega
theorem dist_comm (x y : List Int) : dist x y = dist y x := by unfold dist; rw [lcs_comm x y]; omega
theorem dist_zero (x y : List Int) : (dist x y = 0) ↔ x = y := by
  have h1 := lcs_le_left x y
  have h2 := lcs_le_right x y
  constructor
  · intro h
    unfold dist at h
    obtain ⟨s, k1, k2, k3⟩ := lcs_has x y
    have e1 := k1.eq_of_length (by omega)
    have e2 := k2.eq_of_length (by omega)
    rw [← e1, ← e2]
  · rintro rfl
    unfold dist
    rw [lcs_self]
    omega
theorem dist_third (x y z : List Int) : dist x y ≤ dist x z + dist z y := by
  have := lcs_third x y z
  have := lcs_le_left x y
  have := lcs_le_right x y
  have := lcs_le_left x z
  have := lcs_le_right x z
  have := lcs_le_left z y
  have := lcs_le_right z y
  unfold dist
  omega
theorem dist_le (x y : List Int) : dist x y ≤ x.length + y.length := by unfold dist; omega

end Go.Proofs.Ytdedmmeefffpkaa

namespace Go.Proofs.Ytdedmmeefffpkaa

theorem take_pad {a : List Int} {r : Nat} (h : a[r]? = none) : a.take (r + 1) = a.take r := by
  have := List.getElem?_eq_none_iff.1 h
  rw [List.take_of_length_le (by omega), List.take_of_length_le this]
theorem px_pad_left {a b : List Int} {r : Nat} (c : Nat) (h : a[r]? = none) : px a b (r + 1) c = px a b r c := by unfold px; rw [take_pad h]
theorem px_pad_right {a b : List Int} {c : Nat} (r : Nat) (h : b[c]? = none) : px a b r (c + 1) = px a b r c := by unfold px; rw [take_pad h]
/-- Steps down columns are 0 or 1. -/
theorem px_v (a b : List Int) (r c : Nat) : px a b r c ≤ px a b (r + 1) c ∧ px a b (r + 1) c ≤ px a b r c + 1 := by
  cases h : a[r]? with
  | none => rw [px_pad_left c h]; omega
  | some x =>
    unfold px
    rw [take_snoc h]
    have := lcs_grow_back (a.take r) (b.take c) x
    omega
theorem px_comm (a b : List Int) (r c : Nat) : px a b r c = px b a c r := by unfold px; rw [lcs_comm]
/-- Steps along rows are 0 or 1. -/
theorem px_h (a b : List Int) (r c : Nat) : px a b r c ≤ px a b r (c + 1) ∧ px a b r (c + 1) ≤ px a b r c + 1 := by
  rw [px_comm a b r c, px_comm a b r (c + 1)]
  exact px_v b a c r
/-- The same number stands at both places. -/
def alikeAt (a b : List Int) (r c : Nat) : Bool := match a[r]?, b[c]? with | some x, some y => x == y | _, _ => false
theorem px_step (a b : List Int) (r c : Nat) : px a b (r + 1) (c + 1) = if alikeAt a b r c = true then px a b r c + 1 else max (px a b r (c + 1)) (px a b (r + 1) c) := by
  unfold alikeAt
  cases h1 : a[r]? with
  | none =>
    simp only [Bool.false_eq_true, if_false]
    rw [px_pad_left (c + 1) h1, px_pad_left c h1]
    have := px_h a b r c
    omega
  | some x =>
    cases h2 : b[c]? with
    | none =>
      simp only [Bool.false_eq_true, if_false]
      rw [px_pad_right (r + 1) h2, px_pad_right r h2]
      have := px_v a b r c
      omega
    | some y =>
      by_cases e : x = y
      · subst e
        simp only [beq_self_eq_true, if_true]
        exact px_same h1 h2
      · have e' : (x == y) = false := by simpa using e
        simp only [e', Bool.false_eq_true, if_false]
        exact px_other h1 h2 e

/-- A square that stands at (i, j) of the table. -/
structure Stands (a b : List Int) (t eq top left i j : Nat) : Prop where
  alike : ∀ r c, r < t → c < t → bitN eq (r * t + c) = if alikeAt a b (i + r) (j + c) = true then 1 else 0
  top : ∀ c, c < t → bitN top c = px a b i (j + c + 1) - px a b i (j + c)
  left : ∀ r, r < t → bitN left r = px a b (i + r + 1) j - px a b (i + r) j
theorem stands_at {a b : List Int} {t eq top left i j : Nat} (h : Stands a b t eq top left i j) : ∀ r c, r ≤ t → c ≤ t → px a b i j + sqN t eq top left r c = px a b (i + r) (j + c)
  | 0, 0, _, _ => by rw [sqN_top]; rfl
  | 0, c + 1, h1, h2 => by
    have := stands_at h 0 c h1 (by omega)
    have e := h.top c (by omega)
    have g := px_h a b i (j + c)
    have e2 : px a b (i + 0) (j + (c + 1)) = px a b i (j + c + 1) := rfl
    have e3 : px a b (i + 0) (j + c) = px a b i (j + c) := rfl
    rw [sqN_top, sumN, ← sqN_top t eq top left, e]
    omega
  | r + 1, 0, h1, h2 => by
    have := stands_at h r 0 (by omega) h2
    have e := h.left r (by omega)
    have g := px_v a b (i + r) j
    have e2 : px a b (i + (r + 1)) (j + 0) = px a b (i + r + 1) j := rfl
    have e3 : px a b (i + r) (j + 0) = px a b (i + r) j := rfl
    rw [sqN_left, sumN, ← sqN_left t eq top left, e]
    omega
  | r + 1, c + 1, h1, h2 => by
    have f1 := stands_at h r c (by omega) (by omega)
    have f2 := stands_at h r (c + 1) (by omega) h2
    have f3 := stands_at h (r + 1) c h1 (by omega)
    have e := h.alike r c (by omega) (by omega)
    rw [← Nat.add_assoc] at f2 f3 ⊢
    have g := px_step a b (i + r) (j + c)
    rw [← Nat.add_assoc, g]
    have q : sqN t eq top left (r + 1) (c + 1) = if bitN eq (r * t + c) = 1 then sqN t eq top left r c + 1 else max (sqN t eq top left r (c + 1)) (sqN t eq top left (r + 1) c) := by
      unfold sqN
      rw [sq_rc]
      simp
    rw [q, e]
    by_cases hh : alikeAt a b (i + r) (j + c) = true
    · simp only [hh, if_true]
      omega
    · rw [if_neg hh, if_neg hh, if_neg (by decide)]
      omega
termination_by r c => (r, c)
theorem stands_bot {a b : List Int} {t eq top left i j : Nat} (h : Stands a b t eq top left i j) {k : Nat} (hk : k < t) : bitN (botN t eq top left) k = px a b (i + t) (j + k + 1) - px a b (i + t) (j + k) := by
  have h1 := stands_at h t k (Nat.le_refl _) (by omega)
  have h2 := stands_at h t (k + 1) (Nat.le_refl _) hk
  unfold botN
  rw [num_bit (botF_le t eq top left) t k hk]
  unfold botF
  rw [← Nat.add_assoc] at h2
  omega
theorem stands_rgt {a b : List Int} {t eq top left i j : Nat} (h : Stands a b t eq top left i j) {k : Nat} (hk : k < t) : bitN (rgtN t eq top left) k = px a b (i + k + 1) (j + t) - px a b (i + k) (j + t) := by
  have h1 := stands_at h k t (by omega) (Nat.le_refl _)
  have h2 := stands_at h (k + 1) t hk (Nat.le_refl _)
  unfold rgtN
  rw [num_bit (rgtF_le t eq top left) t k hk]
  unfold rgtF
  rw [← Nat.add_assoc] at h2
  omega
/-- The steps of a row add up to its last number. -/
theorem px_sum (a b : List Int) (r : Nat) : ∀ c, sumN (fun k => px a b r (k + 1) - px a b r k) c = px a b r c
  | 0 => by rw [px_zero_right]; rfl
  | c + 1 => by have := px_sum a b r c; have := px_h a b r c; rw [sumN]; omega
theorem px_beyond (a b : List Int) {r c : Nat} (hr : a.length ≤ r) (hc : b.length ≤ c) : px a b r c = lcs a b := by unfold px; rw [List.take_of_length_le hr, List.take_of_length_le hc]
/-- How many squares of side t a length takes. -/
def upN (n t : Nat) : Nat := (n + t - 1) / t
theorem upN_ge {n t : Nat} (ht : 1 ≤ t) : n ≤ upN n t * t := by
  unfold upN
  have h1 := Nat.div_add_mod (n + t - 1) t
  have h2 := Nat.mod_lt (n + t - 1) ht
  rw [Nat.mul_comm] at h1
  omega
theorem upN_mono {n m t : Nat} (h : n ≤ m) : upN n t ≤ upN m t := Nat.div_le_div_right (by omega)
theorem upN_le {n s t : Nat} (hs : 1 ≤ s) (h : s ≤ t) : upN n t ≤ upN n s := by
  unfold upN
  rw [Nat.div_le_iff_le_mul_add_pred (by omega)]
  have h1 := upN_ge (n := n) hs
  unfold upN at h1
  have h2 := Nat.mul_le_mul_left ((n + s - 1) / s) h
  rw [Nat.mul_comm t]
  omega

end Go.Proofs.Ytdedmmeefffpkaa

namespace Go.Proofs.Ytdedmmeefffpkaa
open Go.RowKit

/-- A row that is told by its places, as a list. -/
def rowL (m : Nat) (F : Nat → Int) : List Int := (List.range (m + 1)).map F
theorem rowL_length (m : Nat) (F : Nat → Int) : (rowL m F).length = m + 1 := by simp [rowL]
theorem rowL_get {m : Nat} {F : Nat → Int} {c : Nat} (h : c ≤ m) : (rowL m F)[c]? = some (F c) := by
  unfold rowL
  rw [List.getElem?_map, List.getElem?_range (by omega)]
  rfl
theorem rowL_congr {m : Nat} {F G : Nat → Int} (h : ∀ c, c ≤ m → F c = G c) : rowL m F = rowL m G := by
  unfold rowL
  refine List.map_congr_left fun c hc => h c ?_
  rw [List.mem_range] at hc
  omega
theorem rowL_ext {l : List Int} {m : Nat} {F : Nat → Int} (hl : l.length = m + 1) (h : ∀ c, c ≤ m → l[c]? = some (F c)) : l = rowL m F := by
  refine List.ext_getElem? fun c => ?_
  rcases Nat.lt_or_ge c (m + 1) with g | g
  · rw [h c (by omega), rowL_get (by omega)]
  · rw [List.getElem?_eq_none (by omega), List.getElem?_eq_none (by rw [rowL_length]; omega)]
theorem rowL_succ (m : Nat) (F : Nat → Int) : rowL (m + 1) F = rowL m F ++ [F (m + 1)] := by
  unfold rowL
  rw [List.range_succ, List.map_append]
  rfl
theorem rowL_zero (F : Nat → Int) : rowL 0 F = [F 0] := rfl

/-- Number c of a list. -/
def nth (l : List Int) (c : Nat) : Int := l[c]?.getD 0
theorem nth_of {l : List Int} {c : Nat} {x : Int} (h : l[c]? = some x) : nth l c = x := by unfold nth; rw [h]; rfl
theorem nth_rowL {m : Nat} {F : Nat → Int} {c : Nat} (h : c ≤ m) : nth (rowL m F) c = F c := nth_of (rowL_get h)

/-- Number c of the next row. -/
def nx (x : Int) (b : List Int) (G : Nat → Int) : Nat → Int
  | 0 => G 0
  | j + 1 => if x = nth b j then IntKind.i64.wrap (G j + 1) else (if G (j + 1) < nx x b G j then nx x b G j else G (j + 1))
def nextL (row : List Int) (x : Int) (b : List Int) : List Int := if row.length = b.length + 1 then rowL b.length (nx x b (nth row)) else []
theorem nextL_fits {row : List Int} {x : Int} {b : List Int} (h : row.length = b.length + 1) : nextL row x b = rowL b.length (nx x b (nth row)) := if_pos h
theorem nextL_not {row : List Int} {x : Int} {b : List Int} (h : row.length ≠ b.length + 1) : nextL row x b = [] := if_neg h
theorem fillA_nx {x : Int} {b : List Int} {G F : Nat → Int} (h0 : F 0 = G 0) : ∀ k c, c ≤ k → fillA x b G F k c = nx x b G c := by
  intro k
  induction k with
  | zero =>
    intro c hc
    obtain rfl : c = 0 := by omega
    exact h0
  | succ k ih =>
    intro c hc
    show (if c = k + 1 then (if x = (b[k]?.getD 0) then IntKind.i64.wrap (G k + 1) else (if G (k + 1) < fillA x b G F k k then fillA x b G F k k else G (k + 1))) else fillA x b G F k c) = _
    by_cases e : c = k + 1
    · subst e
      rw [if_pos rfl, ih k (Nat.le_refl _)]
      rfl
    · rw [if_neg e]
      exact ih c (by omega)

/-- The rows of all of a, from the front, from the back. -/
def frontL (a b : List Int) : List Int := rowL b.length fun c => (px a b a.length c : Nat)
def backL (a b : List Int) : List Int := rowL b.length fun c => (lx a b 0 c : Nat)
theorem frontL_length (a b : List Int) : (frontL a b).length = b.length + 1 := rowL_length _ _
theorem backL_length (a b : List Int) : (backL a b).length = b.length + 1 := rowL_length _ _
theorem frontL_nil (b : List Int) : frontL [] b = rowL b.length fun _ => 0 := rowL_congr fun c _ => by simp [px, lcs_nil_left]
theorem nth_front {a b : List Int} {c : Nat} (h : c ≤ b.length) : nth (frontL a b) c = (lcs a (b.take c) : Nat) := by
  unfold frontL
  rw [nth_rowL h]
  unfold px
  rw [List.take_length]
theorem nth_back {a b : List Int} {c : Nat} (h : c ≤ b.length) : nth (backL a b) c = (lcs a (b.drop c) : Nat) := by
  unfold backL
  rw [nth_rowL h]
  unfold lx
  rw [List.drop_zero]

/-- One number more. -/
theorem front_next {a b : List Int} {i : Nat} {x : Int} (hx : a[i]? = some x) (hn : a.length ≤ 1048576) : nextL (frontL (a.take i) b) x b = frontL (a.take (i + 1)) b := by
  rw [nextL_fits (frontL_length _ _)]
  refine rowL_congr fun c hc => ?_
  have hi : i < a.length := (List.getElem?_eq_some_iff.1 hx).1
  have hp : ∀ r, r ≤ a.length → ∀ c, c ≤ b.length → (px (a.take r) b (a.take r).length c : Nat) = px a b r c := fun r hr c _ => by
    unfold px
    rw [List.take_length]
  have hG : ∀ c, c ≤ b.length → nth (frontL (a.take i) b) c = (px a b i c : Nat) := fun c hc => by
    unfold frontL
    rw [nth_rowL hc, hp i (by omega) c hc]
  rw [← fillA_nx (F := nth (frontL (a.take i) b)) rfl b.length c hc, fillA_row hx hn hG (by rw [hG 0 (Nat.zero_le _), px_zero_right]; rfl) c hc, hp (i + 1) (by omega) c hc]
theorem front_back (a b : List Int) : (frontL a.reverse b.reverse).reverse = backL a b := by
  refine rowL_ext (by rw [List.length_reverse, frontL_length, List.length_reverse]) fun c hc => ?_
  rw [List.getElem?_reverse (by rw [frontL_length, List.length_reverse]; omega), frontL_length, List.length_reverse]
  unfold frontL
  rw [rowL_get (by rw [List.length_reverse]; omega)]
  unfold px lx
  rw [List.take_length, List.drop_zero, show b.length + 1 - 1 - c = b.length - c by omega, List.take_reverse, show b.length - (b.length - c) = c by omega, lcs_rev]

/-- The first place where both together are most, and how much that is, when k are seen. -/
def sumAt (f g : List Int) (c : Nat) : Int := IntKind.i64.wrap (nth f c + nth g c)
def spR (f g : List Int) : Nat → Nat × Int
  | 0 => (0, sumAt f g 0)
  | k + 1 => if (spR f g k).2 < sumAt f g k then (k, sumAt f g k) else spR f g k
theorem spR_is (f g : List Int) : ∀ k, (spR f g k).2 = sumAt f g (spR f g k).1 ∧ ((spR f g k).1 < k ∨ (spR f g k).1 = 0) ∧ (∀ c, c < k → sumAt f g c ≤ (spR f g k).2) ∧ ∀ c, c < (spR f g k).1 → sumAt f g c < (spR f g k).2 := by
  intro k
  induction k with
  | zero => exact ⟨rfl, .inr rfl, fun c h => by omega, fun c h => by simp [spR] at h⟩
  | succ k ih =>
    obtain ⟨h1, h2, h3, h4⟩ := ih
    show ((if (spR f g k).2 < sumAt f g k then (k, sumAt f g k) else spR f g k).2 = sumAt f g (if (spR f g k).2 < sumAt f g k then (k, sumAt f g k) else spR f g k).1) ∧ ((if (spR f g k).2 < sumAt f g k then (k, sumAt f g k) else spR f g k).1 < k + 1 ∨ (if (spR f g k).2 < sumAt f g k then (k, sumAt f g k) else spR f g k).1 = 0) ∧ (∀ c, c < k + 1 → sumAt f g c ≤ (if (spR f g k).2 < sumAt f g k then (k, sumAt f g k) else spR f g k).2) ∧ ∀ c, c < (if (spR f g k).2 < sumAt f g k then (k, sumAt f g k) else spR f g k).1 → sumAt f g c < (if (spR f g k).2 < sumAt f g k then (k, sumAt f g k) else spR f g k).2
    by_cases e : (spR f g k).2 < sumAt f g k
    · rw [if_pos e]
      refine ⟨rfl, .inl (by show k < k + 1; omega), fun c hc => ?_, fun c hc => ?_⟩
      · show sumAt f g c ≤ sumAt f g k
        by_cases e' : c = k
        · subst e'; omega
        · have := h3 c (by omega); omega
      · have : c < k := hc
        have := h3 c this
        show sumAt f g c < sumAt f g k
        omega
    · rw [if_neg e]
      refine ⟨h1, h2.imp (fun h => by omega) id, fun c hc => ?_, h4⟩
      by_cases e' : c = k
      · subst e'; omega
      · exact h3 c (by omega)
/-- What Split tells. -/
def splitL (f g : List Int) : Nat × Int := if f.length = 0 ∨ f.length ≠ g.length then (0, 0) else spR f g f.length
theorem split_meet {a b : List Int} {i : Nat} (hn : a.length ≤ 1048576) : let s := splitL (frontL (a.take i) b) (backL (a.drop i) b)
    s.1 ≤ b.length ∧ s.2 = (lcs a b : Nat) ∧ lcs (a.take i) (b.take s.1) + lcs (a.drop i) (b.drop s.1) = lcs a b := by
  intro s
  have hs : s = spR (frontL (a.take i) b) (backL (a.drop i) b) (b.length + 1) := by
    show splitL _ _ = _
    unfold splitL
    rw [if_neg (by rw [frontL_length, backL_length]; omega), frontL_length]
  have hS : ∀ c, c ≤ b.length → sumAt (frontL (a.take i) b) (backL (a.drop i) b) c = ((px a b i c + lx a b i c : Nat) : Int) := fun c hc => by
    unfold sumAt
    rw [nth_front hc, nth_back hc]
    have := px_lx_le a b i c
    have := lcs_le_left a b
    unfold px lx at *
    rw [IntWalk.i64_in _ (by omega)]
    omega
  obtain ⟨h1, h2, h3, _⟩ := spR_is (frontL (a.take i) b) (backL (a.drop i) b) (b.length + 1)
  rw [← hs] at h1 h2 h3
  have h0 : s.1 ≤ b.length := by omega
  rw [hS _ h0] at h1
  obtain ⟨j, hj, e⟩ := px_lx_has a b i
  have h4 := h3 j (by omega)
  rw [hS j hj, e, h1] at h4
  have h5 := px_lx_le a b i s.1
  have h6 : px a b i s.1 + lx a b i s.1 = lcs a b := by omega
  exact ⟨h0, by rw [h1, h6], h6⟩

end Go.Proofs.Ytdedmmeefffpkaa

namespace Go.Proofs.Ytdedmmeefffpkaa
open Go.RowKit

/-- Up to number k each is the one ahead of it, or 1 more. -/
def okS (row : List Int) : Nat → Bool
  | 0 => true
  | k + 1 => okS row k && (decide (nth row (k + 1) = nth row k) || decide (nth row (k + 1) = nth row k + 1))
def bitS (row : List Int) (k : Nat) : UInt8 := if nth row (k + 1) = nth row k then 0 else 1
def stpS (row : List Int) : Nat → List UInt8
  | 0 => []
  | k + 1 => stpS row k ++ [bitS row k]
/-- The row can be told by steps. -/
def isS (row : List Int) : Bool := decide (row ≠ []) && okS row (row.length - 1)
def stepsL (row : List Int) : List UInt8 := if isS row = true then stpS row (row.length - 1) else []
def errS (row : List Int) : Int := if isS row = true then 0 else 1

theorem stpS_length (row : List Int) : ∀ k, (stpS row k).length = k
  | 0 => rfl
  | k + 1 => by rw [stpS, List.length_append, stpS_length row k]; rfl
theorem stpS_get (row : List Int) : ∀ (n k : Nat), k < n → (stpS row n)[k]? = some (bitS row k)
  | 0, k, h => by omega
  | n + 1, k, h => by
    rw [stpS]
    by_cases e : k < n
    · rw [List.getElem?_append_left (by rw [stpS_length]; exact e), stpS_get row n k e]
    · obtain rfl : k = n := by omega
      rw [List.getElem?_append_right (by rw [stpS_length]; exact Nat.le_refl _), stpS_length, Nat.sub_self]
      rfl
theorem okS_less {row : List Int} : ∀ {n k : Nat}, k ≤ n → okS row n = true → okS row k = true
  | 0, k, h, e => by obtain rfl : k = 0 := by omega
                     exact e
  | n + 1, k, h, e => by
    by_cases hk : k = n + 1
    · subst hk; exact e
    · rw [okS, Bool.and_eq_true] at e
      exact okS_less (by omega) e.1
theorem okS_same {row : List Int} {k : Nat} (h : okS row k = true) (e : nth row (k + 1) = nth row k) : okS row (k + 1) = true := by
  rw [okS, h, decide_eq_true e]; rfl
theorem okS_up {row : List Int} {k : Nat} (h : okS row k = true) (e : nth row (k + 1) = nth row k + 1) : okS row (k + 1) = true := by
  rw [okS, h, decide_eq_true e]; simp
theorem okS_not {row : List Int} {k : Nat} (e : nth row (k + 1) ≠ nth row k) (e' : nth row (k + 1) ≠ nth row k + 1) : okS row (k + 1) = false := by
  rw [okS, decide_eq_false e, decide_eq_false e']; simp
theorem isS_yes {row : List Int} {N : Nat} (hn : row.length = N + 1) (h : okS row N = true) : isS row = true ∧ stepsL row = stpS row N ∧ errS row = 0 := by
  have e : isS row = true := by
    unfold isS
    rw [hn, Nat.add_sub_cancel, h, decide_eq_true (by intro e; rw [e] at hn; simp at hn)]; rfl
  refine ⟨e, ?_, ?_⟩
  · unfold stepsL; rw [if_pos e, hn, Nat.add_sub_cancel]
  · unfold errS; rw [if_pos e]
theorem isS_no {row : List Int} (h : isS row = false) : stepsL row = [] ∧ errS row = 1 := by
  unfold stepsL errS
  rw [h]
  exact ⟨rfl, rfl⟩
theorem isS_nil : isS [] = false := rfl
theorem isS_bad {row : List Int} {N k : Nat} (hn : row.length = N + 1) (hk : k < N) (h : okS row (k + 1) = false) : isS row = false := by
  unfold isS
  rw [hn, Nat.add_sub_cancel]
  cases e : okS row N with
  | false => simp
  | true => rw [okS_less (k := k + 1) (by omega) e] at h; cases h

/-- The first k steps, and noughts. -/
def dS (row : List Int) (N k : Nat) : List UInt8 := stpS row k ++ List.replicate (N - k) 0
theorem dS_length {row : List Int} {N k : Nat} (h : k ≤ N) : (dS row N k).length = N := by
  unfold dS
  rw [List.length_append, stpS_length, List.length_replicate]
  omega
theorem dS_zero (row : List Int) (N : Nat) : dS row N 0 = List.replicate N 0 := rfl
theorem dS_all (row : List Int) (N : Nat) : dS row N N = stpS row N := by unfold dS; simp
theorem dS_cut {row : List Int} {N k : Nat} (h : k < N) : dS row N k = stpS row k ++ 0 :: List.replicate (N - (k + 1)) 0 := by
  unfold dS
  rw [show N - k = (N - (k + 1)) + 1 by omega, List.replicate_succ]
theorem dS_same {row : List Int} {N k : Nat} (h : k < N) (e : nth row (k + 1) = nth row k) : dS row N (k + 1) = dS row N k := by
  rw [dS_cut h]
  unfold dS
  rw [stpS, show bitS row k = 0 from if_pos e]
  simp
theorem dS_up {row : List Int} {N k : Nat} (h : k < N) (e : nth row (k + 1) ≠ nth row k) : dS row N (k + 1) = (dS row N k).set k 1 := by
  rw [dS_cut h, List.set_append_right _ _ (by rw [stpS_length]; exact Nat.le_refl _), stpS_length, Nat.sub_self]
  unfold dS
  rw [stpS, show bitS row k = 1 from if_neg e]
  simp
theorem dS_get {row : List Int} {N k : Nat} (h : k < N) : (dS row N k)[k]? = some 0 := by
  rw [dS_cut h, List.getElem?_append_right (by rw [stpS_length]; exact Nat.le_refl _), stpS_length, Nat.sub_self]
  rfl

/-- A row out of its first number and its steps. -/
def bget (d : List UInt8) (k : Nat) : UInt8 := d[k]?.getD 0
def rowD (first : Int) (d : List UInt8) : Nat → Int
  | 0 => first
  | k + 1 => if bget d k = 0 then rowD first d k else IntKind.i64.wrap (rowD first d k + 1)
def rowDL (first : Int) (d : List UInt8) : List Int := rowL d.length (rowD first d)
theorem bget_of {d : List UInt8} {k : Nat} {x : UInt8} (h : d[k]? = some x) : bget d k = x := by unfold bget; rw [h]; rfl
theorem rowDL_length (first : Int) (d : List UInt8) : (rowDL first d).length = d.length + 1 := rowL_length _ _
theorem nth_rowDL {first : Int} {d : List UInt8} {c : Nat} (h : c ≤ d.length) : nth (rowDL first d) c = rowD first d c := nth_rowL h

/-- How many of the t places from at on the steps have. -/
def prt (n : Nat) (at' t : Int) : Nat := if 0 ≤ at' ∧ 1 ≤ t ∧ t ≤ 3 then min t.toNat (n - at'.toNat) else 0
theorem prt_le (n : Nat) (at' t : Int) : prt n at' t ≤ 3 := by unfold prt; split <;> omega
theorem prt_in {n : Nat} {at' t : Int} (h : 0 < prt n at' t) : 0 ≤ at' ∧ at'.toNat + prt n at' t ≤ n := by
  unfold prt at h ⊢
  split at h
  · rename_i g
    rw [if_pos g]
    omega
  · omega
theorem prt_out {n : Nat} {at' t : Int} (h : ¬ (0 ≤ at' ∧ 1 ≤ t ∧ t ≤ 3)) : prt n at' t = 0 := if_neg h
theorem prt_is {n : Nat} {at' t : Int} (h : 0 ≤ at' ∧ 1 ≤ t ∧ t ≤ 3) : prt n at' t = min t.toNat (n - at'.toNat) := if_pos h

/-- The key of k places from place s on. -/
def keyN (d : List UInt8) (s : Nat) : Nat → Nat
  | 0 => 0
  | k + 1 => if bget d (s + k) = 0 then keyN d s k else keyN d s k + 2 ^ k
theorem keyN_lt (d : List UInt8) (s : Nat) : ∀ k, keyN d s k < 2 ^ k
  | 0 => by simp [keyN]
  | k + 1 => by
    have := keyN_lt d s k
    rw [keyN, Nat.pow_succ]
    split <;> omega
def keyL (d : List UInt8) (at' t : Int) : Nat := keyN d at'.toNat (prt d.length at' t)

/-- Bit k of a key, as a byte. -/
def bitB (key : Int) (k : Nat) : UInt8 := UInt8.ofNat (key / 2 ^ k % 2).toNat
theorem bitB_nat (key : Int) (k : Nat) : ((bitB key k).toNat : Int) = key / 2 ^ k % 2 := by
  unfold bitB
  rw [UInt8.toNat_ofNat']
  omega
/-- k places from place s on are the bits of a key. -/
def putN (d : List UInt8) (s : Nat) (key : Int) : Nat → List UInt8
  | 0 => d
  | k + 1 => (putN d s key k).set (s + k) (bitB key k)
theorem putN_length (d : List UInt8) (s : Nat) (key : Int) : ∀ k, (putN d s key k).length = d.length
  | 0 => rfl
  | k + 1 => by rw [putN, List.length_set, putN_length d s key k]
def putL (d : List UInt8) (at' t key : Int) : List UInt8 := putN d at'.toNat key (prt d.length at' t)
theorem putL_length (d : List UInt8) (at' t key : Int) : (putL d at' t key).length = d.length := putN_length _ _ _ _

theorem bv_set (l : List UInt8) (i : Nat) (b : UInt8) : (bv l).set i (.int .u8 (b.toNat : Int)) = bv (l.set i b) := by
  unfold bv
  rw [List.map_set]

end Go.Proofs.Ytdedmmeefffpkaa

namespace Go.Proofs.Ytdedmmeefffpkaa
open Go.RowKit

theorem wrap_i64 (x : Int) : I64 (IntKind.i64.wrap x) := by
  rw [IntKind.wrap_i64]
  unfold I64
  omega
theorem rowD_i64 {first : Int} (d : List UInt8) (h : I64 first) : ∀ k, I64 (rowD first d k)
  | 0 => h
  | k + 1 => by
    rw [rowD]
    split
    · exact rowD_i64 d h k
    · exact wrap_i64 _
theorem rowDL_i64 {first : Int} (d : List UInt8) (h : I64 first) : ∀ x ∈ rowDL first d, I64 x := by
  intro x hx
  unfold rowDL rowL at hx
  obtain ⟨k, _, rfl⟩ := List.mem_map.1 hx
  exact rowD_i64 d h k
theorem rowD_up {first : Int} {d : List UInt8} (h : I64 first) (h2 : first ≤ 4611686018427387904) : ∀ k, k ≤ 1048576 → first ≤ rowD first d k ∧ rowD first d k ≤ first + k
  | 0, _ => by simp [rowD]
  | k + 1, hk => by
    obtain ⟨h3, h4⟩ := rowD_up (d := d) h h2 k (by omega)
    unfold I64 at h
    rw [rowD]
    split
    · omega
    · rw [IntWalk.i64_in _ (by omega)]
      omega
theorem rowD_next {first : Int} {d : List UInt8} (h : I64 first) (h2 : first ≤ 4611686018427387904) {k : Nat} (hk : k ≤ 1048576) : rowD first d (k + 1) = if bget d k = 0 then rowD first d k else rowD first d k + 1 := by
  obtain ⟨h3, h4⟩ := rowD_up (d := d) h h2 k (by omega)
  unfold I64 at h
  rw [rowD, IntWalk.i64_in _ (by omega)]
theorem okS_all {row : List Int} : ∀ {n : Nat}, (∀ k, k < n → nth row (k + 1) = nth row k ∨ nth row (k + 1) = nth row k + 1) → okS row n = true
  | 0, _ => rfl
  | n + 1, h => by
    have h1 := okS_all (n := n) fun k hk => h k (by omega)
    rcases h n (by omega) with e | e
    · exact okS_same h1 e
    · exact okS_up h1 e
theorem okS_at {row : List Int} {n k : Nat} (h : okS row n = true) (hk : k < n) : nth row (k + 1) = nth row k ∨ nth row (k + 1) = nth row k + 1 := by
  have := okS_less (k := k + 1) (by omega) h
  rw [okS, Bool.and_eq_true, Bool.or_eq_true, decide_eq_true_eq, decide_eq_true_eq] at this
  exact this.2
/-- Of is back from Row. -/
theorem forth {first : Int} {d : List UInt8} (h : I64 first) (h2 : first ≤ 4611686018427387904) (hd : d.length ≤ 1048576) : stepsL (rowDL first d) = stpS (rowDL first d) d.length ∧ errS (rowDL first d) = 0 ∧ ∀ k, k < d.length → bitS (rowDL first d) k = if bget d k = 0 then 0 else 1 := by
  have ok : okS (rowDL first d) d.length = true := okS_all fun k hk => by
    rw [nth_rowDL (by omega), nth_rowDL (by omega), rowD_next h h2 (by omega)]
    split
    · exact .inl rfl
    · exact .inr rfl
  obtain ⟨_, e1, e2⟩ := isS_yes (rowDL_length first d) ok
  refine ⟨e1, e2, fun k hk => ?_⟩
  unfold bitS
  rw [nth_rowDL (by omega), nth_rowDL (by omega), rowD_next h h2 (by omega)]
  by_cases e : bget d k = 0
  · rw [if_pos e, if_pos e, if_pos rfl]
  · rw [if_neg e, if_neg e, if_neg (by omega)]

/-- Row is back from Of. -/
theorem back {row : List Int} {N : Nat} (hn : row.length = N + 1) (ok : okS row N = true) (h : ∀ x ∈ row, I64 x) : rowDL (nth row 0) (stpS row N) = row := by
  have key : ∀ k, k ≤ N → rowD (nth row 0) (stpS row N) k = nth row k := by
    intro k
    induction k with
    | zero => intro _; rfl
    | succ k ih =>
      intro hk
      rw [rowD, ih (by omega), bget_of (stpS_get row N k (by omega))]
      unfold bitS
      have hx : nth row (k + 1) ∈ row := by
        have hlt : k + 1 < row.length := by omega
        rw [nth_of (List.getElem?_eq_getElem hlt)]
        exact List.getElem_mem hlt
      have hi := h _ hx
      unfold I64 at hi
      rcases okS_at ok (show k < N by omega) with e | e
      · rw [if_pos (show (if nth row (k + 1) = nth row k then (0 : UInt8) else 1) = 0 from if_pos e), e]
      · have e1 : (if nth row (k + 1) = nth row k then (0 : UInt8) else 1) = 1 := if_neg (by omega)
        rw [e1, if_neg (by decide), ← e, IntWalk.i64_in _ (by omega)]
  unfold rowDL
  rw [stpS_length]
  symm
  refine rowL_ext hn fun c hc => ?_
  rw [key c hc, List.getElem?_eq_getElem (by omega), nth_of (List.getElem?_eq_getElem (by omega))]

/-- The sum of the first k steps. -/
def sumS (d : List UInt8) : Nat → Nat
  | 0 => 0
  | k + 1 => sumS d k + (bget d k).toNat
theorem sum_steps {row : List Int} {N : Nat} (ok : okS row N = true) : ∀ k, k ≤ N → nth row 0 + (sumS (stpS row N) k : Nat) = nth row k
  | 0, _ => by simp [sumS]
  | k + 1, hk => by
    have ih := sum_steps ok k (by omega)
    rw [sumS, bget_of (stpS_get row N k (by omega))]
    unfold bitS
    rcases okS_at ok (show k < N by omega) with e | e
    · rw [if_pos e]
      simp only [UInt8.toNat_zero, Nat.add_zero]
      omega
    · rw [if_neg (by omega)]
      simp only [UInt8.toNat_one]
      omega
theorem sumS_le {row : List Int} {N : Nat} : ∀ k, k ≤ N → sumS (stpS row N) k ≤ k
  | 0, _ => by simp [sumS]
  | k + 1, hk => by
    have ih := sumS_le (row := row) (N := N) k (by omega)
    rw [sumS, bget_of (stpS_get row N k (by omega))]
    unfold bitS
    split
    · simp; omega
    · simp only [UInt8.toNat_one]; omega

/-- A row of the table goes up by steps. -/
theorem okS_front (a b : List Int) : okS (frontL a b) b.length = true := okS_all fun k hk => by
  rw [nth_front (by omega), nth_front (by omega)]
  have e : b.take (k + 1) = b.take k ++ [b[k]] := List.take_succ_eq_append_getElem hk
  obtain ⟨h1, h2, _⟩ := lcs_grow_back (b.take k) a b[k]
  rw [lcs_comm a, lcs_comm a, e]
  omega
theorem front_i64 {a b : List Int} (h : b.length ≤ 1048576) : ∀ x ∈ frontL a b, I64 x := by
  intro x hx
  unfold frontL rowL at hx
  obtain ⟨k, _, rfl⟩ := List.mem_map.1 hx
  have := lcs_le_right (a.take a.length) (b.take k)
  unfold px I64
  rw [List.length_take] at this
  omega
theorem front_zero (a b : List Int) : nth (frontL a b) 0 = 0 := by
  rw [nth_front (Nat.zero_le _), List.take_zero, lcs_nil_right]
  rfl
theorem front_steps {a b : List Int} {m : Nat} (hm : b.length = m) (h : m ≤ 1048576) : stepsL (frontL a b) = stpS (frontL a b) m ∧ errS (frontL a b) = 0 ∧ rowDL 0 (stpS (frontL a b) m) = frontL a b ∧ ((sumS (stpS (frontL a b) m) m : Nat) : Int) = nth (frontL a b) m := by
  subst hm
  have ok := okS_front a b
  obtain ⟨_, e1, e2⟩ := isS_yes (frontL_length a b) ok
  have e3 := back (frontL_length a b) ok (front_i64 h)
  have e4 := sum_steps ok b.length (Nat.le_refl _)
  rw [front_zero] at e3 e4
  exact ⟨e1, e2, e3, by omega⟩

/-- What was put is there, and only there. -/
theorem putN_get {d : List UInt8} {s : Nat} {key : Int} : ∀ {k : Nat}, s + k ≤ d.length → ∀ j, j < k → bget (putN d s key k) (s + j) = bitB key j
  | 0, _, j, hj => by omega
  | k + 1, h, j, hj => by
    rw [putN]
    by_cases e : j = k
    · subst e
      exact bget_of (List.getElem?_set_self (by rw [putN_length]; omega))
    · unfold bget
      rw [List.getElem?_set_ne (by omega)]
      exact putN_get (k := k) (by omega) j (by omega)
theorem putN_front {d : List UInt8} {s : Nat} {key : Int} : ∀ k, (putN d s key k).take s = d.take s
  | 0 => rfl
  | k + 1 => by rw [putN, List.take_set_of_le (by omega), putN_front k]
theorem putN_back {d : List UInt8} {s : Nat} {key : Int} : ∀ k m, k ≤ m → (putN d s key k).drop (s + m) = d.drop (s + m)
  | 0, _, _ => rfl
  | k + 1, m, h => by rw [putN, List.drop_set_of_lt (by omega), putN_back k m (by omega)]
theorem keyN_put {d : List UInt8} {s m : Nat} {key : Nat} (h : s + m ≤ d.length) : ∀ k, k ≤ m → keyN (putN d s key m) s k = key % 2 ^ k
  | 0, _ => by simp [keyN, Nat.mod_one]
  | k + 1, hk => by
    rw [keyN, putN_get h k (by omega), keyN_put h k (by omega), Nat.mod_pow_succ]
    have e : ((bitB (key : Int) k).toNat : Int) = ((key / 2 ^ k % 2 : Nat) : Int) := by rw [bitB_nat]; simp
    have e' : (bitB (key : Int) k).toNat = key / 2 ^ k % 2 := by omega
    have hz : bitB (key : Int) k = 0 ↔ key / 2 ^ k % 2 = 0 := by
      rw [← e', ← UInt8.toNat_inj]; rfl
    by_cases g : key / 2 ^ k % 2 = 0
    · rw [if_pos (hz.2 g), g, Nat.mul_zero, Nat.add_zero]
    · rw [if_neg (fun x => g (hz.1 x)), show key / 2 ^ k % 2 = 1 by omega, Nat.mul_one]

theorem put_facts {d : List UInt8} {K S q : Nat} (h1 : 1 ≤ S) (h3 : S ≤ 3) (h : K + S ≤ d.length) : (putL d K S q).take K = d.take K ∧ (putL d K S q).drop (K + S) = d.drop (K + S) ∧ keyL (putL d K S q) K S = q % 2 ^ S := by
  have e : prt d.length K S = S := by
    rw [prt_is ⟨by omega, by omega, by omega⟩, Int.toNat_natCast, Int.toNat_natCast]
    omega
  have e2 : putL d K S q = putN d K q S := by unfold putL; rw [e, Int.toNat_natCast]
  rw [e2]
  refine ⟨putN_front S, putN_back S S (Nat.le_refl _), ?_⟩
  unfold keyL
  rw [putN_length, e, Int.toNat_natCast]
  exact keyN_put h S (Nat.le_refl _)

end Go.Proofs.Ytdedmmeefffpkaa

namespace Go.Proofs.Ytdedmmeefffpkaa
open Go.RowKit

/-- Step j of row r * t of the table. -/
def stp (t : Nat) (a b : List Int) (r j : Nat) : Nat := px a b (r * t) (j + 1) - px a b (r * t) j
theorem stp_le (t : Nat) (a b : List Int) (r j : Nat) : stp t a b r j ≤ 1 := by have := px_h a b (r * t) j; unfold stp; omega
theorem stp_zero (t : Nat) (a b : List Int) (j : Nat) : stp t a b 0 j = 0 := by unfold stp; rw [Nat.zero_mul, px_zero_left, px_zero_left]
theorem stp_out {t : Nat} {a b : List Int} {r j : Nat} (h : b.length ≤ j) : stp t a b r j = 0 := by
  unfold stp
  rw [px_pad_right _ (List.getElem?_eq_none h)]
  omega
/-- The sides of square (r, c), as numbers. -/
def topN (t : Nat) (a b : List Int) (r c : Nat) : Nat := num (fun k => stp t a b r (c * t + k)) t
def lefN (t : Nat) (a b : List Int) (r c : Nat) : Nat := num (fun k => px a b (r * t + k + 1) (c * t) - px a b (r * t + k) (c * t)) t
theorem lef_le (t : Nat) (a b : List Int) (r c k : Nat) : px a b (r * t + k + 1) (c * t) - px a b (r * t + k) (c * t) ≤ 1 := by have := px_v a b (r * t + k) (c * t); omega
theorem topN_lt (t : Nat) (a b : List Int) (r c : Nat) : topN t a b r c < 2 ^ t := num_lt (fun _ => stp_le t a b r _) t
theorem lefN_lt (t : Nat) (a b : List Int) (r c : Nat) : lefN t a b r c < 2 ^ t := num_lt (fun k => lef_le t a b r c k) t
theorem lefN_zero (t : Nat) (a b : List Int) (r : Nat) : lefN t a b r 0 = 0 := by
  unfold lefN
  refine Eq.trans (num_congr (g := fun _ => 0) fun k _ => ?_) (num_zero t)
  rw [Nat.zero_mul, px_zero_right, px_zero_right]
/-- Both, as Run keeps them. -/
def sdN (t : Nat) (a b : List Int) (r c : Nat) : Nat := topN t a b r c * 2 ^ t + lefN t a b r c

/-- Piece k of a list. -/
def pc (l : List Int) (k t : Nat) : List Int := (l.drop (k * t)).take t
theorem pc_get {l : List Int} {k t i : Nat} (h : i < t) : (pc l k t)[i]? = l[k * t + i]? := by
  unfold pc
  rw [List.getElem?_take_of_lt h, List.getElem?_drop]
theorem pc_length (l : List Int) (k t : Nat) : (pc l k t).length = min t (l.length - k * t) := by unfold pc; rw [List.length_take, List.length_drop]
/-- What of two pieces is alike. -/
def eqF (t : Nat) (p q : List Int) (x : Nat) : Nat := if alikeAt p q (x / t) (x % t) = true then 1 else 0
def eqN (t : Nat) (p q : List Int) : Nat := num (eqF t p q) (t * t)
theorem eqF_le (t : Nat) (p q : List Int) (x : Nat) : eqF t p q x ≤ 1 := by unfold eqF; split <;> omega
theorem eqN_lt (t : Nat) (p q : List Int) : eqN t p q < 2 ^ (t * t) := num_lt (eqF_le t p q) _
theorem eqF_at {t : Nat} {p q : List Int} {i k : Nat} (h : k < t) : eqF t p q (i * t + k) = if alikeAt p q i k = true then 1 else 0 := by
  unfold eqF
  have e1 : (i * t + k) / t = i := by
    rw [Nat.add_comm, Nat.add_mul_div_right _ _ (by omega), Nat.div_eq_of_lt h, Nat.zero_add]
  have e2 : (i * t + k) % t = k := by
    rw [Nat.add_comm, Nat.add_mul_mod_self_right, Nat.mod_eq_of_lt h]
  rw [e1, e2]
theorem alikeAt_out {p q : List Int} {i k : Nat} (h : p.length ≤ i ∨ q.length ≤ k) : alikeAt p q i k = false := by
  unfold alikeAt
  rcases h with h | h
  · rw [List.getElem?_eq_none h]
  · rw [List.getElem?_eq_none h]
    cases p[i]? <;> rfl
theorem alikeAt_pc {a b : List Int} {t r c i k : Nat} (h1 : i < t) (h2 : k < t) : alikeAt (pc a r t) (pc b c t) i k = alikeAt a b (r * t + i) (c * t + k) := by
  unfold alikeAt
  rw [pc_get h1, pc_get h2]
theorem num_pad {f : Nat → Nat} {s : Nat} : ∀ n, (∀ k, s ≤ k → k < s + n → f k = 0) → num f (s + n) = num f s
  | 0, _ => rfl
  | n + 1, h => by
    show num f (s + n) + f (s + n) * 2 ^ (s + n) = _
    rw [h (s + n) (by omega) (by omega), num_pad n fun k h1 h2 => h k h1 (by omega), Nat.zero_mul, Nat.add_zero]
/-- A row of bits that has ended. -/
theorem eq_row {t : Nat} {p q : List Int} {i : Nat} (h : q.length ≤ t) : num (eqF t p q) (i * t + q.length) = num (eqF t p q) ((i + 1) * t) := by
  rw [Nat.add_mul, Nat.one_mul, show i * t + t = i * t + q.length + (t - q.length) by omega, num_pad (s := i * t + q.length)]
  intro k h1 h2
  obtain ⟨j, rfl⟩ : ∃ j, k = i * t + j := ⟨k - i * t, by omega⟩
  rw [eqF_at (by omega), alikeAt_out (.inr (by omega))]
  rfl
theorem eq_all {t : Nat} {p q : List Int} (h : p.length ≤ t) (ht : 1 ≤ t) : num (eqF t p q) (p.length * t) = eqN t p q := by
  unfold eqN
  obtain ⟨d, hd⟩ : ∃ d, t * t = p.length * t + d := ⟨t * t - p.length * t, by have := Nat.mul_le_mul_right t h; omega⟩
  rw [hd, num_pad]
  intro k h1 h2
  have : p.length ≤ k / t := (Nat.le_div_iff_mul_le (by omega)).2 h1
  unfold eqF
  rw [alikeAt_out (.inl this)]
  rfl

/-- A square stands in the table. -/
theorem sq_stands (t : Nat) (a b : List Int) (r c : Nat) : Stands a b t (eqN t (pc a r t) (pc b c t)) (topN t a b r c) (lefN t a b r c) (r * t) (c * t) where
  alike := fun i k hi hk => by
    unfold eqN
    rw [num_bit (eqF_le t _ _) _ _ (by have := Nat.mul_le_mul_right t (show i + 1 ≤ t from hi); rw [Nat.add_mul, Nat.one_mul] at this; omega), eqF_at hk, alikeAt_pc hi hk]
  top := fun k hk => by
    unfold topN
    rw [num_bit (fun _ => stp_le t a b r _) t k hk]
    rfl
  left := fun k hk => by
    unfold lefN
    rw [num_bit (fun k => lef_le t a b r c k) t k hk]
theorem sq_bot (t : Nat) (a b : List Int) (r c : Nat) : botN t (eqN t (pc a r t) (pc b c t)) (topN t a b r c) (lefN t a b r c) = topN t a b (r + 1) c := by
  have h := sq_stands t a b r c
  unfold topN
  have e : botN t (eqN t (pc a r t) (pc b c t)) (topN t a b r c) (lefN t a b r c) = num (bitN (botN t (eqN t (pc a r t) (pc b c t)) (topN t a b r c) (lefN t a b r c))) t := by
    rw [num_bits, Nat.mod_eq_of_lt (botN_lt _ _ _ _)]
  unfold topN at e h
  rw [e]
  refine num_congr fun k hk => ?_
  rw [stands_bot h hk]
  unfold stp
  rw [Nat.add_mul, Nat.one_mul]
theorem sq_rgt (t : Nat) (a b : List Int) (r c : Nat) : rgtN t (eqN t (pc a r t) (pc b c t)) (topN t a b r c) (lefN t a b r c) = lefN t a b r (c + 1) := by
  have h := sq_stands t a b r c
  have e : rgtN t (eqN t (pc a r t) (pc b c t)) (topN t a b r c) (lefN t a b r c) = num (bitN (rgtN t (eqN t (pc a r t) (pc b c t)) (topN t a b r c) (lefN t a b r c))) t := by
    rw [num_bits, Nat.mod_eq_of_lt (rgtN_lt _ _ _ _)]
  unfold lefN at e h ⊢
  rw [e]
  refine num_congr fun k hk => ?_
  rw [stands_rgt h hk, Nat.add_mul, Nat.one_mul]
/-- The table within a square. -/
theorem sq_top_in (t : Nat) (a b : List Int) (r c : Nat) {k : Nat} (hk : k ≤ t) : sumN (bitN (topN t a b r c)) k = px a b (r * t) (c * t + k) - px a b (r * t) (c * t) := by
  have h := stands_at (sq_stands t a b r c) 0 k (Nat.zero_le _) hk
  rw [sqN_top, Nat.add_zero] at h
  omega
theorem sq_lef_in (t : Nat) (a b : List Int) (r c : Nat) {k : Nat} (hk : k ≤ t) : sumN (bitN (lefN t a b r c)) k = px a b (r * t + k) (c * t) - px a b (r * t) (c * t) := by
  have h := stands_at (sq_stands t a b r c) k 0 hk (Nat.zero_le _)
  rw [sqN_left, Nat.add_zero] at h
  omega
/-- Both sides out of what is kept. -/
theorem sdN_lt (t : Nat) (a b : List Int) (r c : Nat) : sdN t a b r c < 2 ^ (2 * t) := by
  have h1 := topN_lt t a b r c
  have h2 := lefN_lt t a b r c
  have h3 := Nat.mul_le_mul_right (2 ^ t) (show topN t a b r c + 1 ≤ 2 ^ t from h1)
  unfold sdN
  rw [Nat.add_mul, Nat.one_mul] at h3
  rw [Nat.two_mul, Nat.pow_add]
  omega
theorem sdN_div (t : Nat) (a b : List Int) (r c : Nat) : sdN t a b r c / 2 ^ t = topN t a b r c := by
  unfold sdN
  rw [Nat.add_comm, Nat.add_mul_div_right _ _ (Nat.two_pow_pos t), Nat.div_eq_of_lt (lefN_lt t a b r c), Nat.zero_add]
theorem sdN_bit (t : Nat) (a b : List Int) (r c : Nat) {k : Nat} (hk : k < t) : bitN (sdN t a b r c) k = bitN (lefN t a b r c) k := by
  unfold sdN bitN
  have e : topN t a b r c * 2 ^ t = topN t a b r c * 2 ^ (t - k - 1) * 2 * 2 ^ k := by
    rw [Nat.mul_assoc, Nat.mul_assoc, ← Nat.pow_succ', ← Nat.pow_add, show t - k - 1 + k.succ = t by omega]
  rw [e, Nat.add_comm, Nat.add_mul_div_right _ _ (Nat.two_pow_pos k)]
  omega

/-- Steps as bytes. -/
def byL (f : Nat → Nat) (m : Nat) : List UInt8 := (List.range m).map fun j => UInt8.ofNat (f j)
theorem byL_length (f : Nat → Nat) (m : Nat) : (byL f m).length = m := by unfold byL; simp
theorem byL_get {f : Nat → Nat} {m j : Nat} (h : j < m) : (byL f m)[j]? = some (UInt8.ofNat (f j)) := by
  unfold byL
  rw [List.getElem?_map, List.getElem?_range h]
  rfl
theorem byL_bget {f : Nat → Nat} {m j : Nat} (h : j < m) : bget (byL f m) j = UInt8.ofNat (f j) := bget_of (byL_get h)
theorem byte_small {x : Nat} (h : x ≤ 1) : (UInt8.ofNat x).toNat = x := by
  rw [UInt8.toNat_ofNat']
  omega
theorem byte_zero {x : Nat} (h : x ≤ 1) : UInt8.ofNat x = 0 ↔ x = 0 := by
  rw [← UInt8.toNat_inj, byte_small h]
  rfl
theorem key_num {f : Nat → Nat} {m s : Nat} (hf : ∀ j, f j ≤ 1) : ∀ k, s + k ≤ m → keyN (byL f m) s k = num (fun k => f (s + k)) k
  | 0, _ => rfl
  | k + 1, h => by
    rw [keyN, num, key_num hf k (by omega), byL_bget (by omega)]
    have h1 := hf (s + k)
    by_cases e : f (s + k) = 0
    · rw [if_pos ((byte_zero h1).2 e), e, Nat.zero_mul, Nat.add_zero]
    · rw [if_neg (fun g => e ((byte_zero h1).1 g)), show f (s + k) = 1 by omega, Nat.one_mul]
/-- The key above a square. -/
theorem key_top {t : Nat} {a b : List Int} {r c : Nat} {f : Nat → Nat} (ht : 1 ≤ t ∧ t ≤ 3) (hc : c * t < b.length) (hf : ∀ j, f j ≤ 1) (h : ∀ j, c * t ≤ j → f j = stp t a b r j) : keyL (byL f b.length) ((c * t : Nat) : Int) (t : Int) = topN t a b r c := by
  unfold keyL topN
  rw [byL_length, prt_is ⟨by omega, by omega, by omega⟩, Int.toNat_natCast, Int.toNat_natCast, key_num hf _ (by omega)]
  obtain ⟨M, hM⟩ : ∃ M, min t (b.length - c * t) = M := ⟨_, rfl⟩
  have key : ∀ T, M ≤ T → (∀ k, M ≤ k → k < T → stp t a b r (c * t + k) = 0) → num (fun k => stp t a b r (c * t + k)) T = num (fun k => stp t a b r (c * t + k)) M := by
    intro T h1 h2
    obtain ⟨d, rfl⟩ : ∃ d, T = M + d := ⟨T - M, by omega⟩
    exact num_pad d h2
  rw [hM, key t (by omega) fun k h1 h2 => stp_out (by omega)]
  exact num_congr fun k _ => h _ (by omega)
/-- The sum of a row's steps. -/
theorem row_steps {f : Nat → Nat} {m : Nat} (hf : ∀ j, f j ≤ 1) (hm : m ≤ 1048576) : ∀ c, c ≤ m → rowD 0 (byL f m) c = (sumN f c : Nat)
  | 0, _ => rfl
  | c + 1, h => by
    rw [rowD_next (i64_small (by simp)) (by omega) (by omega), row_steps hf hm c (by omega), byL_bget (by omega), sumN]
    have h1 := hf c
    by_cases e : f c = 0
    · rw [if_pos ((byte_zero h1).2 e), e]
      rfl
    · rw [if_neg (fun g => e ((byte_zero h1).1 g)), show f c = 1 by omega]
      rfl
theorem stp_sum (t : Nat) (a b : List Int) (r c : Nat) : sumN (stp t a b r) c = px a b (r * t) c := px_sum a b (r * t) c
/-- A key's bits, put into noughts, as a row. -/
theorem put_zero {t : Nat} {key : Nat} : ∀ k, k ≤ t → putN (List.replicate t 0) 0 (key : Int) k = byL (bitN key) k ++ List.replicate (t - k) 0
  | 0, _ => rfl
  | k + 1, h => by
    rw [putN, put_zero k (by omega), Nat.zero_add, List.set_append_right _ _ (by rw [byL_length]; exact Nat.le_refl _), byL_length, Nat.sub_self, show t - k = (t - (k + 1)) + 1 by omega, List.replicate_succ, List.set_cons_zero]
    have e : byL (bitN key) (k + 1) = byL (bitN key) k ++ [bitB (key : Int) k] := by
      unfold byL
      rw [List.range_succ, List.map_append]
      congr 1
    rw [e, List.append_assoc]
    rfl
theorem put_key {t key : Nat} (ht : 1 ≤ t ∧ t ≤ 3) : putL (List.replicate t 0) 0 (t : Int) (key : Int) = byL (bitN key) t := by
  unfold putL
  rw [List.length_replicate, prt_is ⟨by omega, by omega, by omega⟩]
  rw [show min (t : Int).toNat (t - (0 : Int).toNat) = t by simp]
  show putN _ 0 _ t = _
  rw [put_zero t (Nat.le_refl _), Nat.sub_self]
  simp
/-- The row that decode tells. -/
def decL (key t : Nat) : List Int := rowL t (fun c => (sumN (bitN key) c : Nat))
theorem dec_row {t key : Nat} (ht : t ≤ 3) : rowDL 0 (byL (bitN key) t) = decL key t := by
  unfold rowDL decL
  rw [byL_length]
  exact rowL_congr fun c hc => row_steps (bitN_le key) (by omega) c hc
theorem sumF_le {f : Nat → Nat} (h : ∀ k, f k ≤ 1) : ∀ c, sumN f c ≤ c
  | 0 => Nat.le_refl _
  | c + 1 => by have := sumF_le h c; have := h c; rw [sumN]; omega

end Go.Proofs.Ytdedmmeefffpkaa
