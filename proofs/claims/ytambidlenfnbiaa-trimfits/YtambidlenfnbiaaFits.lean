/-
  A longest list of what stands between both ends, grown, is a longest one of the whole. Plain lists.
-/
import Derived.Test.YtambidlenfnbiaaLe2
import Derived.Test.YtambidlenfnbiaaGd
import Derived.Test.YtambidlenfnbiaaGr2
import Derived.Test.YtambidlenfnbiaaTrimPure
namespace Go.Proofs.Ytambidlenfnbiaa
open Go.RowKit

def Under (p q : Pr) : Prop := p.1 < q.1 ∧ p.2 < q.2

theorem goodGo_of {a b : List Int} : ∀ (l : List Pr) (p : Option Pr), (∀ c ∈ l, okP a b c = true) → l.Pairwise Under → (∀ p0, p = some p0 → ∀ c ∈ l, Under p0 c) → goodGo a b p l = true
  | [], _, _, _, _ => by rw [goodGo]
  | c :: l, p, h1, h2, h3 => by
    rw [List.pairwise_cons] at h2
    have h := goodGo_of l (some c) (fun x hx => h1 x (List.mem_cons_of_mem _ hx)) h2.2 (fun p0 e x hx => by cases e; exact h2.1 x hx)
    rw [goodGo, h1 c List.mem_cons_self, h, Bool.true_and, Bool.and_true]
    cases p with
    | none => rfl
    | some p0 =>
      have := h3 p0 rfl c List.mem_cons_self
      simp only [rises]
      exact decide_eq_true this
theorem goodB_of {a b : List Int} {l : List Pr} (h1 : ∀ c ∈ l, okP a b c = true) (h2 : l.Pairwise Under) : goodB a b l = true := goodGo_of l none h1 h2 (fun _ e => by cases e)

theorem okP_nat {a b : List Int} {x y : Nat} (h1 : x < a.length) (h : a[x]? = b[y]?) : okP a b ((x : Int), (y : Int)) = true := by
  rw [List.getElem?_eq_getElem h1] at h
  exact okP_yes (u := a[x]) (List.getElem?_eq_getElem h1) h.symm

/-- A pair of the list. -/
def Inb (a b : List Int) (i j : Nat) (c : Pr) : Prop := ∃ x y : Nat, c = ((x : Int), (y : Int)) ∧ x < i ∧ y < j ∧ x < a.length ∧ y < b.length ∧ a[x]? = b[y]?
theorem Chain.good {a b : List Int} {l : List Pr} {i j : Nat} (h : Chain a b l i j) : (∀ c ∈ l, Inb a b i j c) ∧ l.Pairwise Under := by
  induction h with
  | nil => exact ⟨by simp, List.Pairwise.nil⟩
  | @snoc l i j L x y _ _ h2 ih =>
    obtain ⟨g1, g2, hp, _⟩ := h2
    have hl := hp.lt
    obtain ⟨v, e1, e2, _⟩ := hp
    refine ⟨fun c hc => ?_, ?_⟩
    · rcases List.mem_append.1 hc with hc | hc
      · obtain ⟨x', y', rfl, k1, k2, k3, k4, k5⟩ := ih.1 c hc
        exact ⟨x', y', rfl, by omega, by omega, k3, k4, k5⟩
      · rw [List.mem_singleton] at hc
        subst hc
        exact ⟨x, y, rfl, by omega, by omega, hl.1, hl.2, by rw [e1, e2]⟩
    · rw [List.pairwise_append]
      refine ⟨ih.2, List.pairwise_singleton _ _, fun c hc c' hc' => ?_⟩
      rw [List.mem_singleton] at hc'
      subst hc'
      obtain ⟨x', y', rfl, k1, k2, _⟩ := ih.1 c hc
      exact ⟨by show (x' : Int) < x; omega, by show (y' : Int) < y; omega⟩

theorem mid_at (a : List Int) (p s x : Nat) (h : x < (mid a p s).length) : (mid a p s)[x]? = a[p + x]? := by
  unfold mid at *
  rw [List.length_take] at h
  rw [List.getElem?_take, if_pos (by omega), List.getElem?_drop]

/-- The grown list is valid, and as long as can be. -/
theorem fits_all (xs ys : List Int) (l : List Pr) (i j : Nat) (n m : Nat) (hx : xs.length = n) (hy : ys.length = m) (hn : n ≤ 30) (hm : m ≤ 30)
    (hc : Chain (mid xs (pe xs ys) (se xs ys)) (mid ys (pe xs ys) (se xs ys)) l i j) (hl : l.length = lcs (mid xs (pe xs ys) (se xs ys)) (mid ys (pe xs ys) (se xs ys))) :
    grows l (pe xs ys) (se xs ys) n m = true ∧ goodB xs ys (grown l (pe xs ys) (se xs ys) n m) = true ∧ pe xs ys + l.length + se xs ys = lcs xs ys := by
  have k1 := ends_left xs ys
  have k2 := ends_right xs ys
  have l1 := mid_length xs _ _ k1
  have l2 := mid_length ys _ _ k2
  have T := ends_take xs ys
  have D := ends_drop xs ys
  have HL := lcs_trim xs ys
  have M1 := fun x h => mid_at xs (pe xs ys) (se xs ys) x h
  have M2 := fun x h => mid_at ys (pe xs ys) (se xs ys) x h
  obtain ⟨hg, hp⟩ := hc.good
  rw [hx] at k1 l1 D
  rw [hy] at k2 l2 D
  generalize mid xs (pe xs ys) (se xs ys) = us at *
  generalize mid ys (pe xs ys) (se xs ys) = vs at *
  generalize pe xs ys = p at *
  generalize se xs ys = s at *
  refine ⟨?_, goodB_of ?_ ?_, by omega⟩
  · have f1 : fits p s n = true := (fits_yes (by omega)).symm
    have f2 : fits p s m = true := (fits_yes (by omega)).symm
    simp only [grows, f1, f2, Bool.true_and, allb, List.all_eq_true]
    intro c hc
    obtain ⟨x, y, rfl, _, _, g3, g4, _⟩ := hg c hc
    exact inb_yes (by omega)
  · intro c hc
    unfold grown at hc
    rcases List.mem_append.1 hc with hc | hc
    · rcases List.mem_append.1 hc with hc | hc
      · obtain ⟨k, hk, rfl⟩ := List.mem_map.1 hc
        rw [List.mem_range] at hk
        apply okP_nat (by omega)
        have e : (xs.take p)[k]? = (ys.take p)[k]? := by rw [T]
        rwa [List.getElem?_take, List.getElem?_take, if_pos hk, if_pos hk] at e
      · obtain ⟨c2, hc2, rfl⟩ := List.mem_map.1 hc
        obtain ⟨x, y, rfl, _, _, g3, g4, g5⟩ := hg c2 hc2
        rw [M1 x g3, M2 y g4] at g5
        have := okP_nat (a := xs) (b := ys) (x := p + x) (y := p + y) (by omega) g5
        simp only [Int.natCast_add] at this
        rw [Int.add_comm (p : Int) x, Int.add_comm (p : Int) y] at this
        exact this
    · obtain ⟨k, hk, rfl⟩ := List.mem_map.1 hc
      rw [List.mem_range] at hk
      have e : (xs.drop (n - s))[k]? = (ys.drop (m - s))[k]? := by rw [D]
      rw [List.getElem?_drop, List.getElem?_drop] at e
      have := okP_nat (a := xs) (b := ys) (x := n - s + k) (y := m - s + k) (by omega) e
      rw [show (n : Int) - (s : Int) + (k : Int) = ((n - s + k : Nat) : Int) by omega, show (m : Int) - (s : Int) + (k : Int) = ((m - s + k : Nat) : Int) by omega]
      exact this
  · unfold grown
    have upR : ∀ (f g : Int) (k : Nat), ((List.range k).map (fun i : Nat => (f + (i : Int), g + (i : Int)))).Pairwise Under := by
      intro f g k
      rw [List.pairwise_map]
      exact List.pairwise_lt_range.imp fun {x y} h => ⟨by show f + (x : Int) < f + (y : Int); omega, by show g + (x : Int) < g + (y : Int); omega⟩
    rw [List.pairwise_append, List.pairwise_append]
    refine ⟨⟨?_, ?_, ?_⟩, upR _ _ _, ?_⟩
    · have := upR 0 0 p
      simpa using this
    · rw [List.pairwise_map]
      exact hp.imp fun {x y} h => ⟨by have := h.1; show x.1 + (p : Int) < y.1 + (p : Int); omega, by have := h.2; show x.2 + (p : Int) < y.2 + (p : Int); omega⟩
    · intro c hc c' hc'
      obtain ⟨k, hk, rfl⟩ := List.mem_map.1 hc
      rw [List.mem_range] at hk
      obtain ⟨c2, hc2, rfl⟩ := List.mem_map.1 hc'
      obtain ⟨x, y, rfl, _⟩ := hg c2 hc2
      exact ⟨by show (k : Int) < (x : Int) + (p : Int); omega, by show (k : Int) < (y : Int) + (p : Int); omega⟩
    · intro c hc c' hc'
      obtain ⟨k, hk, rfl⟩ := List.mem_map.1 hc'
      rcases List.mem_append.1 hc with hc | hc
      · obtain ⟨k', hk', rfl⟩ := List.mem_map.1 hc
        rw [List.mem_range] at hk'
        exact ⟨by show (k' : Int) < (n : Int) - (s : Int) + (k : Int); omega, by show (k' : Int) < (m : Int) - (s : Int) + (k : Int); omega⟩
      · obtain ⟨c2, hc2, rfl⟩ := List.mem_map.1 hc
        obtain ⟨x, y, rfl, _, _, g3, g4, _⟩ := hg c2 hc2
        exact ⟨by show (x : Int) + (p : Int) < (n : Int) - (s : Int) + (k : Int); omega, by show (y : Int) + (p : Int) < (m : Int) - (s : Int) + (k : Int); omega⟩

end Go.Proofs.Ytambidlenfnbiaa
