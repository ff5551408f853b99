/-
  Words and contracts that the proof leans on.
-/
import Derived.Test.YtokgabijjgndgaaM2
import Derived.Deep.QuietTactic
import Derived.BigQuiet
namespace Go.Proofs.Ytokgabijjgndgaa
open Go.RowKit

/-- Numbers as values. -/
def iv (l : List Int) : List Value := l.map (Value.int .i64)
theorem Row.int {w : World} {A : Option Addr} {l : List Int} (h : Row w A (iv l)) {k : Nat} (hk : k < l.length) :
    ∃ g o, A = some ⟨g, o, none⟩ ∧ w.cell? ⟨g, o + k, none⟩ = some (.int .i64 l[k]) := by
  obtain ⟨g, o, e, hc⟩ := h.at_ k (by simpa [iv] using hk)
  exact ⟨g, o, e, by rw [hc]; simp [iv]⟩

end Go.Proofs.Ytokgabijjgndgaa

namespace Go.Proofs.Ytokgabijjgndgaa
open Go.RowKit

/-! Rows of the call's own, of whatever cells an element has. -/
theorem own_rowS {w : World} {base sz : Nat} {e : TypeId} {A : Option Addr} {n c : Nat} {us : List Value} (h : w.ownsRow base e sz (.slice A n c) n us) : Row w A us := fun hne => by
  rcases h.2 with ⟨_, h0⟩ | ⟨g, cap, cur, hv, _⟩
  · exact absurd (List.eq_nil_of_length_eq_zero (by rw [h.1, h0, Nat.zero_mul])) hne
  · have hA : A = some ⟨g, 0, none⟩ := by injection hv
    subst hA
    refine ⟨g, 0, rfl, fun i u hu => ?_⟩
    have := h.cells (g := g) rfl i u hu
    simpa [Addr.add_lit] using this
theorem own_sliceS {w : World} {B n sz : Nat} {e : TypeId} {v : Value} {vs : List Value} (h : w.ownsRow B e sz v n vs) : ∃ A c, v = .slice A n c ∧ n ≤ c ∧ c ≤ maxLen ∧ Row w A vs ∧ (A = none → c = 0) := by
  rcases h.2 with ⟨e, h0⟩ | ⟨g, cap, cur, hv, _, _, h1, h2, _⟩
  · subst h0
    subst e
    have hl : vs = [] := List.eq_nil_of_length_eq_zero (by simpa using h.1)
    subst hl
    exact ⟨none, 0, rfl, Nat.le_refl _, Nat.zero_le _, Row.nil _ _, fun _ => rfl⟩
  · subst hv
    exact ⟨_, cap, rfl, h1, h2, own_rowS h, fun e => by cases e⟩

/-- A block of one pair, as a literal makes it. -/
theorem pair_new (w : World) (x y : Value) (t : TypeId) : ∀ j u, [x, y][j]? = some u → (w.alloc (.cells #[x, y] t)).cell? ((⟨w.heap.size, 0, none⟩ : Addr).add j) = some u := by
  intro j u hu
  have h := Row.new w [x, y] t (0, 0) (by simp)
  obtain ⟨g, o, e, hc⟩ := h
  cases e
  rw [Addr.add_lit]
  exact hc j u hu
end Go.Proofs.Ytokgabijjgndgaa

namespace Go.Proofs.Ytokgabijjgndgaa
open Go.RowKit

theorem own_setS {w : World} {B n sz g c : Nat} {e : TypeId} {us : List Value} (h : w.ownsRow B e sz (.slice (some ⟨g, 0, none⟩) n c) n us) (i : Nat) (x : Value) : (w.setCell ⟨g, i, none⟩ x).ownsRow B e sz (.slice (some ⟨g, 0, none⟩) n c) n (us.set i x) := by
  obtain ⟨hl, h2⟩ := h
  refine ⟨by simpa using hl, .inr ?_⟩
  rcases h2 with ⟨hv, _⟩ | ⟨g', cap, cur, hv, hg, hh, h3, h4, h5, h6⟩
  · cases hv
  · have e1 : g = g' := by injection hv with h; injection h with h; injection h
    have e2 : c = cap := by injection hv
    subst e1
    subst e2
    refine ⟨g, c, cur.setIfInBounds i x, rfl, hg, heap_setCell_same w g i cur e x hh, h3, h4, by simpa using h5, ?_⟩
    rw [Array.toList_setIfInBounds, List.take_set, h6]
theorem grown_setS {w w1 : World} {b : Option Nat} {g i : Nat} {x : Value} (h : w.grownBy w1 b) (hg : some g = b ∨ w.heap.size ≤ g) : w.grownBy (w1.setCell ⟨g, i, none⟩ x) b := by
  refine ⟨h.os, h.tape, h.output, by simpa using h.size, fun k hk hne => ?_⟩
  rw [heap_setCell_other _ _ _ _ (fun e => ?_)]
  · exact h.block k hk hne
  · simp only at e
    subst e
    rcases hg with hg | hg
    · exact hne hg
    · omega
theorem own_posS {w : World} {B n sz : Nat} {e : TypeId} {v : Value} {us : List Value} (h : w.ownsRow B e sz v n us) (hn : 0 < n) : ∃ g c, v = .slice (some ⟨g, 0, none⟩) n c ∧ (∀ i, w.frozen? ⟨g, i, none⟩ = false) ∧ B ≤ g ∧ g < w.heap.size := by
  rcases h.2 with ⟨_, h0⟩ | ⟨g, cap, cur, hv, hg, hh, h3, h4, h5, h6⟩
  · omega
  · refine ⟨g, cap, hv, fun i => ?_, hg, (Array.getElem?_eq_some_iff.1 hh).1⟩
    simp [World.frozen?, hh]

end Go.Proofs.Ytokgabijjgndgaa

namespace Go.Proofs.Ytokgabijjgndgaa
open Go.RowKit

end Go.Proofs.Ytokgabijjgndgaa
