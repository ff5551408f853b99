/-
  Words and contracts that the proof leans on.
-/
import Derived.Test.YtejpbjglfjhjkaaM25
import Derived.Test.YtejpbjglfjhjkaaM3
import Derived.Deep.SlicePairs
namespace Go.Proofs.Ytejpbjglfjhjkaa
open Go.ChangeShapes Go.WideShapes Go.ChangeAt Go.RowKit

/-- A list of pairs that came in: it reads l. -/
def ArgP (w : World) (A : Option Addr) (n c : Nat) (l : List Pr) : Prop := l.length = n ∧ n ≤ c ∧ c ≤ maxLen ∧ Row w A (pv l) ∧ (A = none → c = 0) ∧ ∀ x ∈ l, (Lit.int .i64 x.1).wf = true ∧ (Lit.int .i64 x.2).wf = true

theorem pv_at : ∀ (l : List Pr) (j : Nat) (u : Value), (pv l)[j]? = some u → ∃ (k : Nat) (hk : k < l.length), (j = k * 2 ∧ u = .int .i64 l[k].1) ∨ (j = k * 2 + 1 ∧ u = .int .i64 l[k].2)
  | [], j, u, h => by simp [pv_nil] at h
  | p :: l, 0, u, h => by
    simp [pv_cons] at h
    exact ⟨0, by simp, .inl ⟨rfl, h.symm⟩⟩
  | p :: l, 1, u, h => by
    simp [pv_cons] at h
    exact ⟨0, by simp, .inr ⟨rfl, h.symm⟩⟩
  | p :: l, j + 2, u, h => by
    rw [pv_cons] at h
    simp only [List.getElem?_cons_succ] at h
    obtain ⟨k, hk, h'⟩ := pv_at l j u h
    refine ⟨k + 1, by simpa using hk, ?_⟩
    rcases h' with ⟨e, e'⟩ | ⟨e, e'⟩
    · exact .inl ⟨by omega, by simpa using e'⟩
    · exact .inr ⟨by omega, by simpa using e'⟩

section
variable {H : Type} {enc : TypeId × Value → H} {P : Program} {W : World}

theorem open_argP {t e : TypeId} {f0 f1 : Field} {A : Option Addr} {n c : Nat} {d : DataW H} {p : List MemPlace} (ht : P.underlying t = some (.slice e)) (he : P.underlying e = some (.struct #[f0, f1]))
    (ce : P.cellsOf e = 2) (o0 : f0.offset = 0) (o1 : f1.offset = 1) (c0 : P.cellsOf f0.type = 1) (c1 : P.cellsOf f1.type = 1) (u0 : P.underlying f0.type = some (.int .i64)) (u1 : P.underlying f1.type = some (.int .i64))
    (h : DataW.Trod enc P W 0 (fun _ => true) true t (.slice A n c) d p) : ∃ l, ArgP W A n c l := by
  obtain ⟨fuel, hf⟩ := h
  rcases Deep.open_slice_pairs ht he ce o0 o1 c0 c1 hf with ⟨hcs, _⟩ | ⟨a, len, cap, m, fu, V0, V1, D0, D1, P0, P1, hcs, _, hl, hm, hmm, _, hi⟩
  · simp [Value.cells] at hcs
    obtain ⟨rfl, rfl, rfl⟩ := hcs
    exact ⟨[], rfl, Nat.le_refl _, Nat.zero_le _, Row.nil _ _, fun _ => rfl, by simp⟩
  · simp [Value.cells] at hcs
    obtain ⟨rfl, rfl, rfl⟩ := hcs
    simp only [if_true] at hmm
    subst hmm
    have each : ∀ i, i < m → ∃ z : Pr, W.cell? (a.add (i * 2)) = some (.int .i64 z.1) ∧ W.cell? (a.add (i * 2 + 1)) = some (.int .i64 z.2) ∧ (Lit.int .i64 z.1).wf = true ∧ (Lit.int .i64 z.2).wf = true := by
      intro i him
      obtain ⟨h1, h2, h3, h4⟩ := hi i him
      obtain ⟨z1, e1, _, w1⟩ := DataW.trod_int u0 h3
      obtain ⟨z2, e2, _, w2⟩ := DataW.trod_int u1 h4
      simp only [List.cons.injEq, and_true] at e1 e2
      exact ⟨(z1, z2), by rw [h1, e1], by rw [h2, e2], w1, w2⟩
    obtain ⟨F, hF⟩ := Deep.choose_lt each
    refine ⟨(List.range n).map F, by simp, hl, hm, ?_, (fun e => by cases e), ?_⟩
    · refine row_of_cells fun i u hu => ?_
      obtain ⟨k, hk, h'⟩ := pv_at _ i u hu
      simp only [List.length_map, List.length_range] at hk
      have := hF k (by omega)
      rcases h' with ⟨rfl, rfl⟩ | ⟨rfl, rfl⟩
      · simpa using this.1
      · simpa using this.2.1
    · intro x hx
      obtain ⟨k, hk, rfl⟩ := List.mem_map.1 hx
      have := hF k (by have := List.mem_range.1 hk; omega)
      exact this.2.2
end

end Go.Proofs.Ytejpbjglfjhjkaa
