/-
  Numbers as a list that rises, plain.
-/
import Derived.Test.YtnocjkpjihpphaaThP
namespace Go.Proofs.Ytnocjkpjihpphaa

/-- A number put into a rising list, if it is not there. -/
def insT (t : List Int) (x : Int) : List Int := if t[cntL t x]? = some x then t else t.take (cntL t x) ++ x :: t.drop (cntL t x)
def risL (l : List Int) : List Int := l.foldl insT []
theorem ris_snoc {l : List Int} {k : Nat} {x : Int} (h : l[k]? = some x) : risL (l.take (k + 1)) = insT (risL (l.take k)) x := by
  unfold risL
  rw [take_snoc h, List.foldl_append, List.foldl_cons, List.foldl_nil]
theorem ins_length (t : List Int) (x : Int) : (insT t x).length ≤ t.length + 1 := by
  unfold insT
  split
  · omega
  · rw [List.length_append, List.length_take, List.length_cons, List.length_drop]
    omega
theorem ris_fold (l : List Int) : ∀ t, (l.foldl insT t).length ≤ t.length + l.length := by
  induction l with
  | nil => exact fun t => Nat.le_refl _
  | cons x l ih =>
    intro t
    have h1 := ih (insT t x)
    have h2 := ins_length t x
    rw [List.foldl_cons, List.length_cons]
    omega
theorem ris_length (l : List Int) : (risL l).length ≤ l.length := by
  have := ris_fold l []
  rw [List.length_nil, Nat.zero_add] at this
  exact this
theorem asc_ins {t : List Int} (h : Asc t) (x : Int) : Asc (insT t x) := by
  unfold insT
  split
  · exact h
  · rename_i hne
    have h1 : ∀ y ∈ t.take (cntL t x), y < x := by
      intro y hy
      obtain ⟨i, hi, e⟩ := List.mem_iff_getElem.1 hy
      rw [List.length_take] at hi
      rw [List.getElem_take] at e
      exact (asc_at h x i y (by rw [← e]; exact List.getElem?_eq_getElem _)).2 (by omega)
    have h2 : ∀ y ∈ t.drop (cntL t x), x < y := by
      intro y hy
      obtain ⟨i, hi, e⟩ := List.mem_iff_getElem.1 hy
      rw [List.length_drop] at hi
      rw [List.getElem_drop] at e
      have hy' : t[cntL t x + i]? = some y := by rw [← e]; exact List.getElem?_eq_getElem _
      have hz : t[cntL t x]? = some (t[cntL t x]'(by omega)) := List.getElem?_eq_getElem _
      have a1 := (asc_at h x _ _ hz)
      have a2 : t[cntL t x]'(by omega) ≠ x := fun e => hne (by rw [hz, e])
      have a3 : ¬ t[cntL t x]'(by omega) < x := fun g => by have := a1.1 g; omega
      cases i with
      | zero =>
        have : t[cntL t x]'(by omega) = y := e
        omega
      | succ i =>
        have : t[cntL t x]'(by omega) < t[cntL t x + (i + 1)]'(by omega) := List.pairwise_iff_getElem.1 h _ _ _ _ (by omega)
        omega
    refine List.pairwise_append.2 ⟨List.Pairwise.sublist (List.take_sublist _ _) h, List.pairwise_cons.2 ⟨h2, List.Pairwise.sublist (List.drop_sublist _ _) h⟩, ?_⟩
    intro a ha b hb
    have g1 := h1 a ha
    rcases List.mem_cons.1 hb with rfl | hb
    · exact g1
    · have g2 := h2 b hb
      omega
theorem asc_ris (l : List Int) : Asc (risL l) := by
  have : ∀ (l : List Int) t, Asc t → Asc (l.foldl insT t) := by
    intro l
    induction l with
    | nil => exact fun t h => h
    | cons x l ih => exact fun t h => ih _ (asc_ins h x)
  exact this l [] List.Pairwise.nil
theorem ins_at {t : List Int} {x : Int} {k : Nat} (hk : cntL t x = k) (h : t[k]? ≠ some x) : insT t x = t.take k ++ x :: t.drop k := by
  unfold insT
  rw [hk, if_neg h]
theorem ins_in {t : List Int} {x : Int} {k : Nat} (hk : cntL t x = k) (h : t[k]? = some x) : insT t x = t := by
  unfold insT
  rw [hk, if_pos h]

end Go.Proofs.Ytnocjkpjihpphaa
