/-
  Words and contracts that the proof leans on.
-/
import Derived.Test.YtmhnciljbdflcaaM12
import Derived.Test.YtmhnciljbdflcaaM13
namespace Go.Proofs.Ytmhnciljbdflcaa

/-- Of numbers that go to one place only the least one is left there. -/
theorem row_same {t : List Int} (ht : Asc t) {k : Nat} : ∀ {l : List Int} {j : Int}, Asc (j :: l) → (∀ s ∈ j :: l, cntL t s = k) → rowTh t (j :: l) = putT t j
  | [], j, _, _ => rfl
  | s :: l, j, ha, hk => by
    obtain ⟨h1, h2⟩ := asc_cons.1 ha
    have ih := row_same ht (l := l) (j := s) h2 (fun x hx => hk x (by simp [hx]))
    have hjs : j < s := h1 s (by simp)
    have e : rowTh t (j :: s :: l) = putT (rowTh t (s :: l)) j := rfl
    rw [e, ih]
    have hj := hk j (by simp)
    have hs := hk s (by simp)
    refine asc_ext (asc_put (asc_put ht s) j) (asc_put ht j) fun i => ?_
    rw [cnt_put (asc_put ht s), cnt_put ht j i, cnt_put ht s i, cnt_put ht s j, if_pos (by omega : j ≤ s)]
    by_cases g : i ≤ j
    · rw [if_pos g, if_pos g, if_pos (by omega)]
    · rw [if_neg g, if_neg g]
      split <;> omega
theorem row_app (t l r : List Int) : rowTh t (l ++ r) = rowTh (rowTh t r) l := by unfold rowTh; rw [List.foldr_append]
/-- The last of js, from f on, all go to one place. -/
theorem row_cut {t js : List Int} (ht : Asc t) (hj : Asc js) {k f : Nat} {j : Int} (hf : js[f]? = some j) (hk : ∀ i x, f ≤ i → js[i]? = some x → cntL t x = k) : rowTh t js = rowTh (putT t j) (js.take f) := by
  obtain ⟨hl, e⟩ := List.getElem?_eq_some_iff.1 hf
  have e1 : js = js.take f ++ (j :: js.drop (f + 1)) := by
    rw [← e, ← List.drop_eq_getElem_cons hl, List.take_append_drop]
  have ha : Asc (j :: js.drop (f + 1)) := by
    have := e1 ▸ hj
    exact (List.pairwise_append.1 this).2.1
  have hs : ∀ s ∈ j :: js.drop (f + 1), cntL t s = k := by
    intro s hs
    rw [← e, ← List.drop_eq_getElem_cons hl] at hs
    obtain ⟨i, hi, rfl⟩ := List.mem_iff_getElem.1 hs
    refine hk (f + i) _ (by omega) ?_
    rw [← List.getElem?_drop]
    exact List.getElem?_eq_getElem _
  conv => lhs; rw [e1]
  rw [row_app, row_same ht ha hs]
theorem asc_take {l : List Int} (h : Asc l) (k : Nat) : Asc (l.take k) := List.Pairwise.sublist (List.take_sublist _ _) h
/-- One place more that goes there too. -/
theorem place_more {t js : List Int} (ht : Asc t) (hj : Asc js) {k f : Nat} (hf : f + 1 < js.length) (hk : ∀ i x, f + 1 ≤ i → js[i]? = some x → cntL t x = k) (h : ∀ z y, 0 < k → t[k - 1]? = some z → js[f]? = some y → z < y) : ∀ i x, f ≤ i → js[i]? = some x → cntL t x = k := by
  intro i x hi hx
  by_cases e : i = f
  · subst e
    have h1 : js[i + 1]? = some js[i + 1] := List.getElem?_eq_getElem hf
    have h2 := hk (i + 1) _ (Nat.le_refl _) h1
    have h3 : x < js[i + 1] := by
      obtain ⟨hl, e⟩ := List.getElem?_eq_some_iff.1 hx
      rw [← e]
      exact List.pairwise_iff_getElem.1 hj _ _ _ _ (by omega)
    have h4 := cnt_mono t (i := x) (j := js[i + 1]) (by omega)
    have h5 := cnt_le t js[i + 1]
    by_cases g : k = 0
    · omega
    · have hz : t[k - 1]? = some (t[k - 1]'(by omega)) := List.getElem?_eq_getElem _
      have := (asc_at ht x _ _ hz).1 (h _ _ (by omega) hz hx)
      omega
  · exact hk i x (by omega) hx
theorem place_one {t js : List Int} {f : Nat} {j : Int} (hf : f + 1 = js.length) (h : js[f]? = some j) : ∀ i x, f ≤ i → js[i]? = some x → cntL t x = cntL t j := by
  intro i x hi hx
  have := (List.getElem?_eq_some_iff.1 hx).1
  obtain rfl : i = f := by omega
  rw [h] at hx
  cases hx
  rfl

/-- A chain of m pairs, the last one at threshold m - 1, or ahead of it; those up to K have pairs of earlier rows alone. -/
def ChP (a b : List Int) (i K : Nat) (t : List Int) (m : Nat) (l : List Pr) : Prop :=
  l.length = m ∧ ∃ s : Nat, OkTo a b l (if m ≤ K then i else i + 1) s ∧ ∀ z, 0 < m → t[m - 1]? = some z → (s : Int) ≤ z + 1
theorem chp_nil (a b : List Int) (i K : Nat) (t : List Int) : ChP a b i K t 0 [] := ⟨rfl, 0, ⟨rfl, fun p h => by cases h⟩, fun z h => by omega⟩
theorem ChP.low {a b : List Int} {i K k : Nat} {t : List Int} {m : Nat} {l : List Pr} (h : ChP a b i K t m l) (hk : k ≤ K) : ChP a b i k t m l := by
  obtain ⟨h1, s, h2, h3⟩ := h
  refine ⟨h1, s, ok_more h2 ?_ (Nat.le_refl _), h3⟩
  split <;> split <;> omega
theorem ChP.next {a b : List Int} {i K : Nat} {t : List Int} {m : Nat} {l : List Pr} (h : ChP a b i K t m l) (hm : m ≤ t.length) : ChP a b (i + 1) t.length t m l := by
  obtain ⟨h1, s, h2, h3⟩ := h
  refine ⟨h1, s, ok_more h2 ?_ (Nat.le_refl _), h3⟩
  rw [if_pos hm]
  split <;> omega
theorem put_at (t : List Int) (j : Int) : (putT t j)[cntL t j]? = some j := by
  have := cnt_le t j
  unfold putT
  split
  · rename_i h
    rw [h, List.getElem?_append_right (Nat.le_refl _), Nat.sub_self]
    rfl
  · rw [List.getElem?_set_self (by omega)]
theorem put_else (t : List Int) (j : Int) {i : Nat} (hi : i < t.length) (h : i ≠ cntL t j) : (putT t j)[i]? = t[i]? := by
  unfold putT
  split
  · rw [List.getElem?_append_left hi]
  · rw [List.getElem?_set_ne (by omega)]
theorem ChP.keep {a b : List Int} {i K : Nat} {t : List Int} {m : Nat} {l : List Pr} (h : ChP a b i K t m l) {j : Int} (hk : cntL t j ≤ K) (hm : m ≤ t.length) (hne : m ≠ cntL t j + 1) : ChP a b i (cntL t j) (putT t j) m l := by
  obtain ⟨h1, s, h2, h3⟩ := h.low hk
  refine ⟨h1, s, h2, fun z hz e => h3 z hz ?_⟩
  rw [put_else t j (by omega) (by omega)] at e
  exact e
theorem ChP.put {a b : List Int} {i K : Nat} {t : List Int} {l : List Pr} {j : Nat} {x : Int} (ht : Asc t) (h : ChP a b i K t (cntL t j) l) (hk : cntL t j ≤ K) (h1 : a[i]? = some x) (h2 : b[j]? = some x) : ChP a b i (cntL t j) (putT t j) (cntL t j + 1) (l ++ [((i : Int), (j : Int))]) := by
  obtain ⟨g1, s, g2, g3⟩ := h
  rw [if_pos hk] at g2
  have hle := cnt_le t j
  have ho : OkTo a b l i j := by
    by_cases g : cntL t j = 0
    · rw [g] at g1
      have : l = [] := List.eq_nil_of_length_eq_zero g1
      subst this
      exact ⟨rfl, fun p h => by cases h⟩
    · have hz : t[cntL t j - 1]? = some (t[cntL t j - 1]'(by omega)) := List.getElem?_eq_getElem _
      have q1 := g3 _ (by omega) hz
      have q2 := (asc_at ht (j : Int) _ _ hz).2 (by omega)
      exact ok_more g2 (Nat.le_refl _) (by omega)
  refine ⟨by rw [List.length_append, g1]; rfl, j + 1, ?_, fun z _ e => ?_⟩
  · rw [if_neg (by omega)]
    exact ok_snoc ho h1 h2
  · rw [Nat.add_sub_cancel, put_at] at e
    cases e
    omega
/-- The end: a good list, as long as may be. -/
theorem ChP.good {a b : List Int} {i K : Nat} {t : List Int} {m : Nat} {l : List Pr} (h : ChP a b i K t m l) : goodB a b l = true ∧ l.length = m := by
  obtain ⟨h1, s, h2, _⟩ := h
  exact ⟨h2.1, h1⟩
theorem put_none {t : List Int} {j : Int} (h : t[cntL t j]? = some j) : putT t j = t := by
  obtain ⟨hl, e⟩ := List.getElem?_eq_some_iff.1 h
  unfold putT
  rw [if_neg (by omega)]
  have h2 := List.set_getElem_self hl
  rw [e] at h2
  exact h2

end Go.Proofs.Ytmhnciljbdflcaa
