/-
  Words for lists of pairs in memory: two cells each.
-/
import Derived.Test.YtnocjkpjihpphaaRefI
namespace Go.Proofs.Ytnocjkpjihpphaa
open Go.RowKit

abbrev Pr := Int × Int

/-- Pairs as values. -/
def pv (l : List Pr) : List Value := l.flatMap fun p => [.int .i64 p.1, .int .i64 p.2]
theorem pv_nil : pv [] = [] := rfl
theorem pv_cons (p : Pr) (l : List Pr) : pv (p :: l) = .int .i64 p.1 :: .int .i64 p.2 :: pv l := rfl
theorem pv_one (p : Pr) : pv [p] = [.int .i64 p.1, .int .i64 p.2] := rfl
theorem pv_append (l r : List Pr) : pv (l ++ r) = pv l ++ pv r := by simp [pv]
theorem pv_length : ∀ l : List Pr, (pv l).length = l.length * 2
  | [] => rfl
  | p :: l => by rw [pv_cons]; simp [pv_length l]; omega
theorem pv_cells (l : List Pr) : ∀ u ∈ pv l, u.oneCell' = true := by
  intro u hu
  simp only [pv, List.mem_flatMap] at hu
  obtain ⟨p, _, hp⟩ := hu
  simp at hp
  rcases hp with rfl | rfl <;> rfl
theorem pv_get : ∀ (l : List Pr) (k : Nat) (hk : k < l.length), (pv l)[k * 2]? = some (.int .i64 l[k].1) ∧ (pv l)[k * 2 + 1]? = some (.int .i64 l[k].2)
  | [], k, hk => by simp at hk
  | p :: l, 0, hk => by simp [pv_cons]
  | p :: l, k + 1, hk => by
    have := pv_get l k (by simpa using hk)
    rw [pv_cons, show (k + 1) * 2 = k * 2 + 1 + 1 by omega]
    simpa using this

theorem Row.pair {w : World} {A : Option Addr} {l : List Pr} (h : Row w A (pv l)) {k : Nat} (hk : k < l.length) :
    ∃ g o, A = some ⟨g, o, none⟩ ∧ w.cell? ⟨g, o + k * 2, none⟩ = some (.int .i64 l[k].1) ∧ w.cell? ⟨g, o + k * 2 + 1, none⟩ = some (.int .i64 l[k].2) := by
  obtain ⟨g, o, e, hc⟩ := h (by intro e; have := pv_length l; rw [e] at this; simp at this; omega)
  obtain ⟨h1, h2⟩ := pv_get l k hk
  exact ⟨g, o, e, hc _ _ h1, by rw [Nat.add_assoc]; exact hc _ _ h2⟩

/-! Rows of the call's own, of whatever cells an element has. -/
theorem own_belowS {w w' : World} {B B' n sz : Nat} {e : TypeId} {v : Value} {us : List Value} (h : w.ownsRow B e sz v n us) (hb : Below w.heap.size w w') (hB : B' ≤ B) : w'.ownsRow B' e sz v n us := by
  refine ⟨h.1, ?_⟩
  rcases h.2 with h0 | ⟨g, cap, cur, hv, hg, hh, r⟩
  · exact .inl h0
  · exact .inr ⟨g, cap, cur, hv, by omega, by rw [hb.block g (Array.getElem?_eq_some_iff.1 hh).1]; exact hh, r⟩
theorem own_lowerS {w : World} {B B' n sz : Nat} {e : TypeId} {v : Value} {us : List Value} (h : w.ownsRow B e sz v n us) (hB : B' ≤ B) : w.ownsRow B' e sz v n us := own_belowS h (Below.refl _ _) hB
theorem own_rowS {w : World} {base sz : Nat} {e : TypeId} {A : Option Addr} {n c : Nat} {us : List Value} (h : w.ownsRow base e sz (.slice A n c) n us) : Row w A us := fun hne => by
  rcases h.2 with ⟨_, h0⟩ | ⟨g, cap, cur, hv, _⟩
  · exact absurd (List.eq_nil_of_length_eq_zero (by rw [h.1, h0, Nat.zero_mul])) hne
  · have hA : A = some ⟨g, 0, none⟩ := by injection hv
    subst hA
    refine ⟨g, 0, rfl, fun i u hu => ?_⟩
    have := h.cells (g := g) rfl i u hu
    simpa [Addr.add_lit] using this
theorem own_sliceS {w : World} {B n sz : Nat} {e : TypeId} {v : Value} {vs : List Value} (h : w.ownsRow B e sz v n vs) : ∃ A c, v = .slice A n c ∧ n ≤ c ∧ c ≤ maxLen ∧ Row w A vs ∧ (A = none → c = 0) := by
  rcases h.2 with ⟨e, h0⟩ | ⟨g, cap, cur, hv, _, _, h1, h2, _⟩
  · subst h0
    subst e
    have hl : vs = [] := List.eq_nil_of_length_eq_zero (by simpa using h.1)
    subst hl
    exact ⟨none, 0, rfl, Nat.le_refl _, Nat.zero_le _, Row.nil _ _, fun _ => rfl⟩
  · subst hv
    exact ⟨_, cap, rfl, h1, h2, own_rowS h, fun e => by cases e⟩

/-- A block of one pair, as a literal makes it. -/
theorem pair_new (w : World) (x y : Value) (t : TypeId) : ∀ j u, [x, y][j]? = some u → (w.alloc (.cells #[x, y] t)).cell? ((⟨w.heap.size, 0, none⟩ : Addr).add j) = some u := by
  intro j u hu
  have h := Row.new w [x, y] t (0, 0) (by simp)
  obtain ⟨g, o, e, hc⟩ := h
  cases e
  rw [Addr.add_lit]
  exact hc j u hu
theorem one_pair (x y : Int) : ∀ u ∈ [Value.int .i64 x, Value.int .i64 y], u.oneCell' = true := pv_cells [(x, y)]

end Go.Proofs.Ytnocjkpjihpphaa
