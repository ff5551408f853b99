/-
  Words and contracts that the proof leans on.
-/
import Derived.Test.YtncbhnmhaoblaaaM20
import Derived.Test.YtncbhnmhaoblaaaM21
import Derived.Test.YtncbhnmhaoblaaaM1
namespace Go.Proofs.Ytncbhnmhaoblaaa
open Go.RowKit

/-- L of what is ahead of r and c. -/
def px (a b : List Int) (r c : Nat) : Nat := lcs (a.take r) (b.take c)
theorem px_zero_left (a b : List Int) (c : Nat) : px a b 0 c = 0 := by unfold px; rw [List.take_zero, lcs_nil_left]
theorem px_zero_right (a b : List Int) (r : Nat) : px a b r 0 = 0 := by unfold px; rw [List.take_zero, lcs_nil_right]
theorem take_snoc {a : List Int} {r : Nat} {x : Int} (h : a[r]? = some x) : a.take (r + 1) = a.take r ++ [x] := by
  obtain ⟨g, e⟩ := List.getElem?_eq_some_iff.1 h
  rw [List.take_succ_eq_append_getElem g, e]
theorem px_same {a b : List Int} {r c : Nat} {x : Int} (h1 : a[r]? = some x) (h2 : b[c]? = some x) : px a b (r + 1) (c + 1) = px a b r c + 1 := by
  unfold px
  rw [take_snoc h1, take_snoc h2, lcs_back]
  rfl
theorem lcs_snoc_other {x y : Int} (h : x ≠ y) (a b : List Int) : lcs (a ++ [x]) (b ++ [y]) = max (lcs a (b ++ [y])) (lcs (a ++ [x]) b) := by
  rw [← lcs_rev (a ++ [x]) (b ++ [y]), ← lcs_rev a (b ++ [y]), ← lcs_rev (a ++ [x]) b]
  simp only [List.reverse_append, List.reverse_cons, List.reverse_nil, List.nil_append, List.singleton_append]
  exact lcs_other h _ _
theorem px_other {a b : List Int} {r c : Nat} {x y : Int} (h1 : a[r]? = some x) (h2 : b[c]? = some y) (hne : x ≠ y) : px a b (r + 1) (c + 1) = max (px a b r (c + 1)) (px a b (r + 1) c) := by
  unfold px
  rw [take_snoc h1, take_snoc h2, lcs_snoc_other hne]

/-- One number more. -/
theorem lcs_grow_back (x y : List Int) (z : Int) : lcs x y ≤ lcs (x ++ [z]) y ∧ lcs (x ++ [z]) y ≤ lcs x y + 1 ∧ lcs (x ++ [z]) (y ++ [z]) = lcs x y + 1 := by
  refine ⟨lcs_mono (List.sublist_append_left _ _) (List.Sublist.refl _), ?_, by rw [lcs_back]; rfl⟩
  rw [← lcs_rev (x ++ [z]) y, ← lcs_rev x y, List.reverse_append]
  exact lcs_cons_le _ _ _
end Go.Proofs.Ytncbhnmhaoblaaa

namespace Go.Proofs.Ytncbhnmhaoblaaa

theorem take_pad {a : List Int} {r : Nat} (h : a[r]? = none) : a.take (r + 1) = a.take r := by
  have := List.getElem?_eq_none_iff.1 h
  rw [List.take_of_length_le (by omega), List.take_of_length_le this]
theorem px_pad_left {a b : List Int} {r : Nat} (c : Nat) (h : a[r]? = none) : px a b (r + 1) c = px a b r c := by unfold px; rw [take_pad h]
theorem px_pad_right {a b : List Int} {c : Nat} (r : Nat) (h : b[c]? = none) : px a b r (c + 1) = px a b r c := by unfold px; rw [take_pad h]
/-- Steps down columns are 0 or 1. -/
theorem px_v (a b : List Int) (r c : Nat) : px a b r c ≤ px a b (r + 1) c ∧ px a b (r + 1) c ≤ px a b r c + 1 := by
  cases h : a[r]? with
  | none => rw [px_pad_left c h]; omega
  | some x =>
    unfold px
    rw [take_snoc h]
    have := lcs_grow_back (a.take r) (b.take c) x
    omega
theorem px_comm (a b : List Int) (r c : Nat) : px a b r c = px b a c r := by unfold px; rw [lcs_comm]
/-- Steps along rows are 0 or 1. -/
theorem px_h (a b : List Int) (r c : Nat) : px a b r c ≤ px a b r (c + 1) ∧ px a b r (c + 1) ≤ px a b r c + 1 := by
  rw [px_comm a b r c, px_comm a b r (c + 1)]
  exact px_v b a c r
/-- The same number stands at both places. -/
def alikeAt (a b : List Int) (r c : Nat) : Bool := match a[r]?, b[c]? with | some x, some y => x == y | _, _ => false
theorem px_step (a b : List Int) (r c : Nat) : px a b (r + 1) (c + 1) = if alikeAt a b r c = true then px a b r c + 1 else max (px a b r (c + 1)) (px a b (r + 1) c) := by
  unfold alikeAt
  cases h1 : a[r]? with
  | none =>
    simp only [Bool.false_eq_true, if_false]
    rw [px_pad_left (c + 1) h1, px_pad_left c h1]
    have := px_h a b r c
    omega
  | some x =>
    cases h2 : b[c]? with
    | none =>
      simp only [Bool.false_eq_true, if_false]
      rw [px_pad_right (r + 1) h2, px_pad_right r h2]
      have := px_v a b r c
      omega
    | some y =>
      by_cases e : x = y
      · subst e
        simp only [beq_self_eq_true, if_true]
        exact px_same h1 h2
      · have e' : (x == y) = false := by simpa using e
        simp only [e', Bool.false_eq_true, if_false]
        exact px_other h1 h2 e

end Go.Proofs.Ytncbhnmhaoblaaa

namespace Go.Proofs.Ytncbhnmhaoblaaa
open Go.RowKit

/-! ### Turned -/
/-! ### Dist -/
/-! ### Picked -/
def bvs (l : List Bool) : List Value := l.map Value.bool
theorem Row.bool {w : World} {A : Option Addr} {l : List Bool} (h : Row w A (bvs l)) {k : Nat} (hk : k < l.length) : ∃ g o, A = some ⟨g, o, none⟩ ∧ w.cell? ⟨g, o + k, none⟩ = some (.bool l[k]) := by
  obtain ⟨g, o, e, hc⟩ := h.at_ k (by simpa [bvs] using hk)
  exact ⟨g, o, e, by rw [hc]; simp [bvs]⟩
end Go.Proofs.Ytncbhnmhaoblaaa

namespace Go.Proofs.Ytncbhnmhaoblaaa
open Go.RowKit

/-- A table in memory: its rows lie in the blocks blk. -/
def Tab (f : Nat → Nat → Int) (n m T : Nat) (blk : Nat → Nat) (w : World) : Prop :=
  w.rowIs T 26 (n + 1) (fun r => .slice (some ⟨blk r, 0, none⟩) (m + 1) (m + 1)) ∧ ∀ r, r ≤ n → IsRow w (blk r) (m + 1) (f r)
theorem Tab.congr {f f' : Nat → Nat → Int} {n m T : Nat} {blk : Nat → Nat} {w : World} (h : Tab f n m T blk w) (e : ∀ r, r ≤ n → ∀ c, c ≤ m → f r c = f' r c) : Tab f' n m T blk w :=
  ⟨h.1, fun r hr => World.rowIs.congr (h.2 r hr) fun c hc => by rw [e r hr c (by omega)]⟩
theorem Tab.grown {f : Nat → Nat → Int} {n m T r0 : Nat} {blk : Nat → Nat} {w w' : World} {F : Nat → Int} (h : Tab f n m T blk w) (hg : w.grownBy w' (some (blk r0))) (hT : T ≠ blk r0) (hne : ∀ r, r ≤ n → r ≠ r0 → blk r ≠ blk r0) (hr : IsRow w' (blk r0) (m + 1) F) : Tab (fun r c => if r = r0 then F c else f r c) n m T blk w' := by
  refine ⟨rowIs_grown h.1 hg (fun e => hT (by injection e)), fun r hr' => ?_⟩
  by_cases e : r = r0
  · subst e
    simpa using hr
  · have := rowIs_grown (h.2 r hr') hg (fun e' => hne r hr' e (by injection e'))
    show w'.rowIs _ _ _ (fun c => .int .i64 (if r = r0 then F c else f r c))
    simpa [e] using this
theorem Tab.below {f : Nat → Nat → Int} {n m T : Nat} {blk : Nat → Nat} {w w' : World} (h : Tab f n m T blk w) (hb : Below w.heap.size w w') : Tab f n m T blk w' :=
  ⟨h.1.of_block (hb.block _ h.1.lt), fun r hr => (h.2 r hr).of_block (hb.block _ (World.rowIs.lt (h.2 r hr)))⟩
theorem Tab.drew {f : Nat → Nat → Int} {n m T : Nat} {blk : Nat → Nat} {w : World} (h : Tab f n m T blk w) : Tab f n m T blk w.drew := h

end Go.Proofs.Ytncbhnmhaoblaaa
