/-
  Words and contracts that the proof leans on.
-/
import Derived.WalkKit
import Derived.WalkSpells
import Derived.WalkLawsBesides
import Derived.Below
import Derived.Laws.OwnMore
import Derived.Laws.CopyOwn
import Derived.Laws.AppendOwnNone
import Derived.Laws.BytesArg
import Derived.Deep.Draws
import Derived.Lib.Hide
namespace Go.Proofs.Ytejpbjglfjhjkaa
open Go.RowKit

theorem below_drewN {B : Nat} {a w : World} (h : Below B a w) (n : Nat) : Below B a (w.drewN n) := ⟨h.os, h.tape, h.output, h.size, h.block⟩

/-- The cells us lie at A, one behind the other (nothing is said where there are none). -/
def Row (w : World) (A : Option Addr) (us : List Value) : Prop :=
  us ≠ [] → ∃ g o, A = some ⟨g, o, none⟩ ∧ ∀ (i : Nat) u, us[i]? = some u → w.cell? ⟨g, o + i, none⟩ = some u

theorem Row.nil (w : World) (A : Option Addr) : Row w A [] := fun h => absurd rfl h

theorem Row.at_ {w : World} {A : Option Addr} {us : List Value} (h : Row w A us) (k : Nat) (hk : k < us.length) :
    ∃ g o, A = some ⟨g, o, none⟩ ∧ w.cell? ⟨g, o + k, none⟩ = some us[k] := by
  obtain ⟨g, o, e, hc⟩ := h (by intro e; simp [e] at hk)
  exact ⟨g, o, e, hc k _ (List.getElem?_eq_getElem hk)⟩

/-- Nothing that was there has turned: the row is still there. -/
theorem Row.below {w w' : World} {A : Option Addr} {us : List Value} (h : Row w A us) (hb : Below w.heap.size w w') : Row w' A us := fun hne => by
  obtain ⟨g, o, e, hc⟩ := h hne
  refine ⟨g, o, e, fun i u hu => ?_⟩
  have hx := hc i u hu
  exact (hb.cell (p := ⟨g, o + i, none⟩) (World.block_lt_of_cell? w _ hx)).trans hx

theorem Row.cells {w w' : World} {A : Option Addr} {us : List Value} (h : Row w A us) (hk : ∀ a u, w.cell? a = some u → w'.cell? a = some u) : Row w' A us := fun hne => by
  obtain ⟨g, o, e, hc⟩ := h hne
  exact ⟨g, o, e, fun i u hu => hk _ _ (hc i u hu)⟩

theorem Row.cut {w : World} {A : Option Addr} {us : List Value} (h : Row w A us) (lo hi cap : Nat) (hlo : lo ≤ hi) (hhi : hi ≤ us.length) (hcap : us.length ≤ cap) :
    Row w (if cap = lo then A else A.map (·.add lo)) ((us.drop lo).take (hi - lo)) := fun hne => by
  have hlt : lo < hi := by
    rcases Nat.lt_or_ge lo hi with hx | hx
    · exact hx
    · exact absurd (by rw [show hi - lo = 0 by omega, List.take_zero]) hne
  obtain ⟨g, o, e, hc⟩ := h (by intro e; rw [e] at hhi; simp at hhi; omega)
  subst e
  rw [if_neg (by omega)]
  refine ⟨g, o + lo, by simp [Addr.add_lit], fun i u hu => ?_⟩
  rw [List.getElem?_take] at hu
  split at hu
  · rw [List.getElem?_drop] at hu
    have := hc (lo + i) u hu
    rwa [← Nat.add_assoc] at this
  · cases hu

theorem Row.of_own {w : World} {base : Nat} {e : TypeId} {A : Option Addr} {n c : Nat} {us : List Value} (h : w.ownsRow base e 1 (.slice A n c) n us) : Row w A us := fun hne => by
  rcases h.2 with ⟨_, h0⟩ | ⟨g, cap, cur, hv, _⟩
  · exact absurd (List.eq_nil_of_length_eq_zero (by rw [h.1, h0])) hne
  · have hA : A = some ⟨g, 0, none⟩ := by injection hv
    subst hA
    refine ⟨g, 0, rfl, fun i u hu => ?_⟩
    have := h.cells (g := g) rfl i u hu
    simpa [Addr.add_lit] using this

/-- A new block, of cells that are known. -/
theorem Row.new (w : World) (cs : List Value) (t : TypeId) (mk : Nat × Nat) : Row (w.alloc (.cells cs.toArray t mk)) (some ⟨w.heap.size, 0, none⟩) cs := fun _ =>
  ⟨w.heap.size, 0, rfl, fun i u hu => by
    have hh : (w.alloc (.cells cs.toArray t mk)).heap[w.heap.size]? = some (.cells cs.toArray t mk) := by
      show (w.heap.push (.cells cs.toArray t mk))[w.heap.size]? = _
      simp
    simp only [World.cell?, hh]
    simpa using hu⟩

/-- Bytes as values. -/
def bv (l : List UInt8) : List Value := l.map fun b => Value.int .u8 (b.toNat : Int)
/-- v is a byte slice that reads l. -/
def BS (w : World) (v : Value) (l : List UInt8) : Prop := ∃ A c, v = .slice A l.length c ∧ l.length ≤ c ∧ c ≤ maxLen ∧ Row w A (bv l) ∧ (A = none → c = 0)
theorem BS.below {w w' : World} {v : Value} {l : List UInt8} (h : BS w v l) (hb : Below w.heap.size w w') : BS w' v l := by
  obtain ⟨A, c, rfl, h1, h2, h3, h4⟩ := h
  exact ⟨A, c, rfl, h1, h2, h3.below hb, h4⟩
theorem BS.cells {w w' : World} {v : Value} {l : List UInt8} (h : BS w v l) (hk : ∀ a u, w.cell? a = some u → w'.cell? a = some u) : BS w' v l := by
  obtain ⟨A, c, rfl, h1, h2, h3, h4⟩ := h
  exact ⟨A, c, rfl, h1, h2, h3.cells hk, h4⟩

/-- The values vs are byte slices that read ls. -/
def BSs (w : World) (vs : List Value) (ls : List (List UInt8)) : Prop := vs.length = ls.length ∧ ∀ (i : Nat) v l, vs[i]? = some v → ls[i]? = some l → BS w v l
theorem BSs.below {w w' : World} {vs : List Value} {ls : List (List UInt8)} (h : BSs w vs ls) (hb : Below w.heap.size w w') : BSs w' vs ls :=
  ⟨h.1, fun i v l hv hl => (h.2 i v l hv hl).below hb⟩
theorem BSs.cells {w w' : World} {vs : List Value} {ls : List (List UInt8)} (h : BSs w vs ls) (hk : ∀ a u, w.cell? a = some u → w'.cell? a = some u) : BSs w' vs ls :=
  ⟨h.1, fun i v l hv hl => (h.2 i v l hv hl).cells hk⟩
theorem BSs.nil (w : World) : BSs w [] [] := ⟨rfl, fun i v l hv => by simp at hv⟩
theorem BSs.snoc {w : World} {vs : List Value} {ls : List (List UInt8)} {v : Value} {l : List UInt8} (h : BSs w vs ls) (hv : BS w v l) : BSs w (vs ++ [v]) (ls ++ [l]) := by
  refine ⟨by simp [h.1], fun i u m hu hm => ?_⟩
  rcases Nat.lt_or_ge i vs.length with hi | hi
  · rw [List.getElem?_append_left hi] at hu
    rw [List.getElem?_append_left (by rw [← h.1]; exact hi)] at hm
    exact h.2 i u m hu hm
  · rw [List.getElem?_append_right hi] at hu
    rw [List.getElem?_append_right (by rw [← h.1]; exact hi)] at hm
    have e0 : i - vs.length = 0 := by
      have := (List.getElem?_eq_some_iff.1 hu).1
      simpa using this
    rw [e0] at hu
    rw [← h.1, e0] at hm
    simp at hu hm
    subst hu; subst hm
    exact hv
theorem BSs.get {w : World} {vs : List Value} {ls : List (List UInt8)} (h : BSs w vs ls) {k : Nat} (hk : k < ls.length) : BS w (vs[k]'(by rw [h.1]; exact hk)) ls[k] :=
  h.2 k _ _ (List.getElem?_eq_getElem _) (List.getElem?_eq_getElem _)

theorem BSs.append {w : World} {vs us : List Value} {ls ms : List (List UInt8)} (h : BSs w vs ls) (h' : BSs w us ms) : BSs w (vs ++ us) (ls ++ ms) := by
  refine ⟨by simp [h.1, h'.1], fun i u m hu hm => ?_⟩
  rcases Nat.lt_or_ge i vs.length with hi | hi
  · rw [List.getElem?_append_left hi] at hu
    rw [List.getElem?_append_left (by rw [← h.1]; exact hi)] at hm
    exact h.2 i u m hu hm
  · rw [List.getElem?_append_right hi] at hu
    rw [List.getElem?_append_right (by rw [← h.1]; exact hi), ← h.1] at hm
    exact h'.2 _ u m hu hm
theorem BSs.one {w : World} {vs : List Value} {ls : List (List UInt8)} (h : BSs w vs ls) : ∀ u ∈ vs, u.oneCell' = true := by
  intro u hu
  obtain ⟨i, hi, rfl⟩ := List.mem_iff_getElem.1 hu
  obtain ⟨A, c, e, _⟩ := h.2 i _ _ (List.getElem?_eq_getElem hi) (List.getElem?_eq_getElem (by rw [← h.1]; exact hi))
  rw [e]
  rfl

/-- A slice's cell that holds a byte slice, as the walk asks for it. -/
theorem BSs.cell {w : World} {A : Option Addr} {vs : List Value} {ls : List (List UInt8)} (hr : Row w A vs) (h : BSs w vs ls) {k : Nat} (hk : k < ls.length) :
    ∃ g o A' c', A = some ⟨g, o, none⟩ ∧ w.cell? ⟨g, o + k, none⟩ = some (.slice A' ls[k].length c') ∧ ls[k].length ≤ c' ∧ c' ≤ maxLen ∧ Row w A' (bv ls[k]) ∧ (A' = none → c' = 0) := by
  obtain ⟨g, o, e, hc⟩ := hr.at_ k (by rw [h.1]; exact hk)
  obtain ⟨A', c', e', h1, h2, h3, h4⟩ := h.get hk
  exact ⟨g, o, A', c', e, by rw [hc, e'], h1, h2, h3, h4⟩

theorem Row.drewN {w : World} {A : Option Addr} {us : List Value} (h : Row w A us) (q : Nat) : Row (w.drewN q) A us := h
theorem BSs.drewN {w : World} {vs : List Value} {ls : List (List UInt8)} (h : BSs w vs ls) (q : Nat) : BSs (w.drewN q) vs ls := h

/-- An operation that is wanted (its guard, if it has one, says yes). -/
theorem wpList_want {P : Program} {w : World} {ops : Array Oper} {rest : List Oper} {o : Oper} {a : Act} {Q : Exit → Act → World → Prop} (hw : Region.wanted o (yielded ops a.tmps) = true)
    (h : ∀ K : Act → World → Prop, (∀ a w, wpList P ops Q rest a w → K a w) → o.wp P a w K Q) : wpList P ops Q (o :: rest) a w :=
  wpList_step fun K hK => by rw [if_pos hw]; exact h K hK

end Go.Proofs.Ytejpbjglfjhjkaa
