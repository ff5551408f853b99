/-
  Chapter 17, plain: how far two lists are alike from two places on, and ahead of them.
-/
import Derived.Test.YtdkcgehjokdnoaaTrimPure
namespace Go.Proofs.Ytdkcgehjokdnoaa

/-- How far it is alike on, from i and j on; back; where one comes to on diagonal k. -/
def dnN (a b : List Int) (i j : Nat) : Nat := pre (a.drop i) (b.drop j)
def bkN (a b : List Int) (i j : Nat) : Nat := suf (a.take i) (b.take j)
def dnI (a b : List Int) (i j : Int) : Int := if 0 ≤ i ∧ i ≤ (a.length : Int) ∧ 0 ≤ j ∧ j ≤ (b.length : Int) then (dnN a b i.toNat j.toNat : Nat) else 0
def bkI (a b : List Int) (i j : Int) : Int := if 0 ≤ i ∧ i ≤ (a.length : Int) ∧ 0 ≤ j ∧ j ≤ (b.length : Int) then (bkN a b i.toNat j.toNat : Nat) else 0
def slI (a b : List Int) (k j : Int) : Int := if 0 ≤ j ∧ j ≤ (b.length : Int) ∧ 0 ≤ j - k ∧ j - k ≤ (a.length : Int) then j + (dnN a b (j - k).toNat j.toNat : Nat) else -1
theorem dnI_in {a b : List Int} {i j : Nat} (hi : i ≤ a.length) (hj : j ≤ b.length) : dnI a b i j = (dnN a b i j : Nat) := by
  unfold dnI
  rw [if_pos (by omega)]
  simp
theorem bkI_in {a b : List Int} {i j : Nat} (hi : i ≤ a.length) (hj : j ≤ b.length) : bkI a b i j = (bkN a b i j : Nat) := by
  unfold bkI
  rw [if_pos (by omega)]
  simp
theorem dnI_out {a b : List Int} {i j : Int} (h : ¬ (0 ≤ i ∧ i ≤ (a.length : Int) ∧ 0 ≤ j ∧ j ≤ (b.length : Int))) : dnI a b i j = 0 := if_neg h
theorem bkI_out {a b : List Int} {i j : Int} (h : ¬ (0 ≤ i ∧ i ≤ (a.length : Int) ∧ 0 ≤ j ∧ j ≤ (b.length : Int))) : bkI a b i j = 0 := if_neg h
theorem slI_in {a b : List Int} {k j : Int} {i q : Nat} (hi : i ≤ a.length) (hj : q ≤ b.length) (e : j = (q : Int)) (ek : j - k = (i : Int)) : slI a b k j = (q + dnN a b i q : Nat) := by
  unfold slI
  rw [if_pos (by omega), ek, e]
  simp
theorem slI_out {a b : List Int} {k j : Int} (h : ¬ (0 ≤ j ∧ j ≤ (b.length : Int) ∧ 0 ≤ j - k ∧ j - k ≤ (a.length : Int))) : slI a b k j = -1 := if_neg h
theorem dnN_le (a b : List Int) (i j : Nat) : dnN a b i j ≤ a.length - i ∧ dnN a b i j ≤ b.length - j := by
  have h1 := pre_le_left (a.drop i) (b.drop j)
  have h2 := pre_le_right (a.drop i) (b.drop j)
  rw [List.length_drop] at h1 h2
  exact ⟨h1, h2⟩
theorem bkN_le (a b : List Int) (i j : Nat) : bkN a b i j ≤ i ∧ bkN a b i j ≤ j := by
  have h1 := suf_le_left (a.take i) (b.take j)
  have h2 := suf_le_right (a.take i) (b.take j)
  rw [List.length_take] at h1 h2
  unfold bkN
  omega
/-- Where a search from the front stands: n places are alike. -/
def DnTo (a b : List Int) (i j n : Nat) : Prop := n ≤ dnN a b i j
theorem dn_zero (a b : List Int) (i j : Nat) : DnTo a b i j 0 := Nat.zero_le _
theorem dn_take (a b : List Int) (i j : Nat) : (a.drop i).take (dnN a b i j) = (b.drop j).take (dnN a b i j) := pre_take _ _
theorem dn_more {a b : List Int} {i j n : Nat} {x : Int} (h : DnTo a b i j n) (h1 : a[i + n]? = some x) (h2 : b[j + n]? = some x) : DnTo a b i j (n + 1) := by
  have l1 := (List.getElem?_eq_some_iff.1 h1).1
  have l2 := (List.getElem?_eq_some_iff.1 h2).1
  refine pre_ge _ _ _ (by rw [List.length_drop]; omega) (by rw [List.length_drop]; omega) ?_
  have e : (a.drop i).take n = (b.drop j).take n := by
    have := congrArg (List.take n) (dn_take a b i j)
    unfold DnTo at h
    rwa [List.take_take, List.take_take, Nat.min_eq_left h] at this
  have e1 : (a.drop i)[n]? = some x := by rw [List.getElem?_drop]; exact h1
  have e2 : (b.drop j)[n]? = some x := by rw [List.getElem?_drop]; exact h2
  obtain ⟨g1, q1⟩ := List.getElem?_eq_some_iff.1 e1
  obtain ⟨g2, q2⟩ := List.getElem?_eq_some_iff.1 e2
  rw [List.take_succ_eq_append_getElem g1, List.take_succ_eq_append_getElem g2, e, q1, q2]
theorem dn_stop {a b : List Int} {i j n : Nat} (h : DnTo a b i j n) (hn : ∀ x y, a[i + n]? = some x → b[j + n]? = some y → x ≠ y) : dnN a b i j = n := by
  unfold DnTo at h
  rcases Nat.eq_or_lt_of_le h with e | e
  · exact e.symm
  · exfalso
    obtain ⟨h1, h2⟩ := dnN_le a b i j
    have e0 := congrArg (fun l => l[n]?) (dn_take a b i j)
    simp only [List.getElem?_take, if_pos e, List.getElem?_drop] at e0
    have g1 : a[i + n]? = some (a[i + n]'(by omega)) := List.getElem?_eq_getElem _
    exact hn _ _ g1 (by rw [← e0]; exact g1) rfl
/-- The place behind: not alike, or an end. -/
theorem dn_end (a b : List Int) (i j : Nat) (hi : i ≤ a.length) (hj : j ≤ b.length) : i + dnN a b i j = a.length ∨ j + dnN a b i j = b.length ∨ ∃ x y, a[i + dnN a b i j]? = some x ∧ b[j + dnN a b i j]? = some y ∧ x ≠ y := by
  obtain ⟨h1, h2⟩ := dnN_le a b i j
  by_cases g1 : i + dnN a b i j = a.length
  · exact .inl g1
  by_cases g2 : j + dnN a b i j = b.length
  · exact .inr (.inl g2)
  refine .inr (.inr ⟨a[i + dnN a b i j]'(by omega), b[j + dnN a b i j]'(by omega), List.getElem?_eq_getElem _, List.getElem?_eq_getElem _, ?_⟩)
  have := pre_ends (a.drop i) (b.drop j) (by show dnN a b i j < _; rw [List.length_drop]; omega) (by show dnN a b i j < _; rw [List.length_drop]; omega)
  rw [List.getElem_drop, List.getElem_drop] at this
  exact this
theorem dn_step (a b : List Int) (i j : Nat) (h : 0 < dnN a b i j) : dnN a b (i + 1) (j + 1) = dnN a b i j - 1 := by
  obtain ⟨h1, h2⟩ := dnN_le a b i j
  have ea : a.drop i = a[i]'(by omega) :: a.drop (i + 1) := List.drop_eq_getElem_cons (by omega)
  have eb : b.drop j = b[j]'(by omega) :: b.drop (j + 1) := List.drop_eq_getElem_cons (by omega)
  unfold dnN at h ⊢
  rw [ea, eb, pre] at h ⊢
  split at h
  · rename_i e
    rw [if_pos e, Nat.add_sub_cancel]
  · omega
theorem dn_done (a b : List Int) (i j : Nat) (hi : i ≤ a.length) (hj : j ≤ b.length) : dnN a b (i + dnN a b i j) (j + dnN a b i j) = 0 := by
  refine dn_stop (dn_zero _ _ _ _) fun x y h1 h2 => ?_
  rw [Nat.add_zero] at h1 h2
  rcases dn_end a b i j hi hj with e | e | ⟨u, v, e1, e2, hne⟩
  · have := (List.getElem?_eq_some_iff.1 h1).1
    omega
  · have := (List.getElem?_eq_some_iff.1 h2).1
    omega
  · rw [e1] at h1
    rw [e2] at h2
    cases h1
    cases h2
    exact hne
theorem bk_back (a b : List Int) (i j : Nat) (hi : i ≤ a.length) (hj : j ≤ b.length) : dnN a b i j ≤ bkN a b (i + dnN a b i j) (j + dnN a b i j) := by
  obtain ⟨h1, h2⟩ := dnN_le a b i j
  have ht := dn_take a b i j
  generalize dnN a b i j = n at *
  refine suf_ge _ _ _ (by rw [List.length_take]; omega) (by rw [List.length_take]; omega) ?_
  rw [List.length_take, List.length_take, show min (i + n) a.length - n = i by omega, show min (j + n) b.length - n = j by omega, List.drop_take, List.drop_take, show i + n - i = n by omega, show j + n - j = n by omega]
  exact ht
theorem pre_comm : ∀ a b : List Int, pre a b = pre b a
  | [], [] => rfl
  | [], _ :: _ => rfl
  | _ :: _, [] => rfl
  | x :: a, y :: b => by
    rw [pre, pre, pre_comm a b]
    by_cases e : x = y
    · rw [if_pos e, if_pos e.symm]
    · rw [if_neg e, if_neg (fun e' => e e'.symm)]
theorem dn_comm (a b : List Int) (i j : Nat) : dnN a b i j = dnN b a j i := pre_comm _ _
theorem bk_comm (a b : List Int) (i j : Nat) : bkN a b i j = bkN b a j i := pre_comm _ _
/-- Back is on, in both lists turned round. -/
theorem bk_turn (a b : List Int) (i j : Nat) (hi : i ≤ a.length) (hj : j ≤ b.length) : bkN a b i j = dnN a.reverse b.reverse (a.length - i) (b.length - j) := by
  unfold bkN dnN suf
  rw [List.drop_reverse, List.drop_reverse, show a.length - (a.length - i) = i by omega, show b.length - (b.length - j) = j by omega]
/-- A search back. -/
def BkTo (a b : List Int) (i j n : Nat) : Prop := n ≤ bkN a b i j
theorem bk_zero (a b : List Int) (i j : Nat) : BkTo a b i j 0 := Nat.zero_le _
theorem rev_get {l : List Int} {i n : Nat} (hi : i ≤ l.length) (hn : n < i) : l.reverse[l.length - i + n]? = l[i - n - 1]? := by
  rw [List.getElem?_reverse (by omega)]
  congr 1
  omega
theorem bk_more {a b : List Int} {i j n : Nat} {x : Int} (hi : i ≤ a.length) (hj : j ≤ b.length) (h : BkTo a b i j n) (hni : n < i) (hnj : n < j) (h1 : a[i - n - 1]? = some x) (h2 : b[j - n - 1]? = some x) : BkTo a b i j (n + 1) := by
  unfold BkTo at h ⊢
  rw [bk_turn a b i j hi hj] at h ⊢
  exact dn_more h (by rw [rev_get hi hni]; exact h1) (by rw [rev_get hj hnj]; exact h2)
theorem bk_stop {a b : List Int} {i j n : Nat} (hi : i ≤ a.length) (hj : j ≤ b.length) (h : BkTo a b i j n) (hn : n < i → n < j → ∀ x y, a[i - n - 1]? = some x → b[j - n - 1]? = some y → x ≠ y) : bkN a b i j = n := by
  unfold BkTo at h
  rw [bk_turn a b i j hi hj] at h ⊢
  refine dn_stop h fun x y h1 h2 => ?_
  have l1 := (List.getElem?_eq_some_iff.1 h1).1
  have l2 := (List.getElem?_eq_some_iff.1 h2).1
  rw [List.length_reverse] at l1 l2
  rw [rev_get hi (by omega)] at h1
  rw [rev_get hj (by omega)] at h2
  exact hn (by omega) (by omega) x y h1 h2

end Go.Proofs.Ytdkcgehjokdnoaa
