/-
  Words and contracts that the proof leans on.
-/
import Derived.Test.YtncbhnmhaoblaaaM20
import Derived.Test.YtncbhnmhaoblaaaM21
import Derived.Test.YtncbhnmhaoblaaaM1
namespace Go.Proofs.Ytncbhnmhaoblaaa
open Go.RowKit

/-- L of what is ahead of r and c. -/
def px (a b : List Int) (r c : Nat) : Nat := lcs (a.take r) (b.take c)
theorem px_zero_left (a b : List Int) (c : Nat) : px a b 0 c = 0 := by unfold px; rw [List.take_zero, lcs_nil_left]
theorem px_zero_right (a b : List Int) (r : Nat) : px a b r 0 = 0 := by unfold px; rw [List.take_zero, lcs_nil_right]
theorem take_snoc {a : List Int} {r : Nat} {x : Int} (h : a[r]? = some x) : a.take (r + 1) = a.take r ++ [x] := by
  obtain ⟨g, e⟩ := List.getElem?_eq_some_iff.1 h
  rw [List.take_succ_eq_append_getElem g, e]
theorem px_same {a b : List Int} {r c : Nat} {x : Int} (h1 : a[r]? = some x) (h2 : b[c]? = some x) : px a b (r + 1) (c + 1) = px a b r c + 1 := by
  unfold px
  rw [take_snoc h1, take_snoc h2, lcs_back]
  rfl
theorem lcs_snoc_other {x y : Int} (h : x ≠ y) (a b : List Int) : lcs (a ++ [x]) (b ++ [y]) = max (lcs a (b ++ [y])) (lcs (a ++ [x]) b) := by
  rw [← lcs_rev (a ++ [x]) (b ++ [y]), ← lcs_rev a (b ++ [y]), ← lcs_rev (a ++ [x]) b]
  simp only [List.reverse_append, List.reverse_cons, List.reverse_nil, List.nil_append, List.singleton_append]
  exact lcs_other h _ _
theorem px_other {a b : List Int} {r c : Nat} {x y : Int} (h1 : a[r]? = some x) (h2 : b[c]? = some y) (hne : x ≠ y) : px a b (r + 1) (c + 1) = max (px a b r (c + 1)) (px a b (r + 1) c) := by
  unfold px
  rw [take_snoc h1, take_snoc h2, lcs_snoc_other hne]

/-- One number more. -/
theorem lcs_grow_back (x y : List Int) (z : Int) : lcs x y ≤ lcs (x ++ [z]) y ∧ lcs (x ++ [z]) y ≤ lcs x y + 1 ∧ lcs (x ++ [z]) (y ++ [z]) = lcs x y + 1 := by
  refine ⟨lcs_mono (List.sublist_append_left _ _) (List.Sublist.refl _), ?_, by rw [lcs_back]; rfl⟩
  rw [← lcs_rev (x ++ [z]) y, ← lcs_rev x y, List.reverse_append]
  exact lcs_cons_le _ _ _
end Go.Proofs.Ytncbhnmhaoblaaa

namespace Go.Proofs.Ytncbhnmhaoblaaa

theorem take_pad {a : List Int} {r : Nat} (h : a[r]? = none) : a.take (r + 1) = a.take r := by
  have := List.getElem?_eq_none_iff.1 h
  rw [List.take_of_length_le (by omega), List.take_of_length_le this]
theorem px_pad_left {a b : List Int} {r : Nat} (c : Nat) (h : a[r]? = none) : px a b (r + 1) c = px a b r c := by unfold px; rw [take_pad h]
theorem px_pad_right {a b : List Int} {c : Nat} (r : Nat) (h : b[c]? = none) : px a b r (c + 1) = px a b r c := by unfold px; rw [take_pad h]
/-- Steps down columns are 0 or 1. -/
theorem px_v (a b : List Int) (r c : Nat) : px a b r c ≤ px a b (r + 1) c ∧ px a b (r + 1) c ≤ px a b r c + 1 := by
  cases h : a[r]? with
  | none => rw [px_pad_left c h]; omega
  | some x =>
    unfold px
    rw [take_snoc h]
    have := lcs_grow_back (a.take r) (b.take c) x
    omega
theorem px_comm (a b : List Int) (r c : Nat) : px a b r c = px b a c r := by unfold px; rw [lcs_comm]
/-- Steps along rows are 0 or 1. -/
theorem px_h (a b : List Int) (r c : Nat) : px a b r c ≤ px a b r (c + 1) ∧ px a b r (c + 1) ≤ px a b r c + 1 := by
  rw [px_comm a b r c, px_comm a b r (c + 1)]
  exact px_v b a c r
/-- The same number stands at both places. -/
def alikeAt (a b : List Int) (r c : Nat) : Bool := match a[r]?, b[c]? with | some x, some y => x == y | _, _ => false
theorem px_step (a b : List Int) (r c : Nat) : px a b (r + 1) (c + 1) = if alikeAt a b r c = true then px a b r c + 1 else max (px a b r (c + 1)) (px a b (r + 1) c) := by
  unfold alikeAt
  cases h1 : a[r]? with
  | none =>
    simp only [Bool.false_eq_true, if_false]
    rw [px_pad_left (c + 1) h1, px_pad_left c h1]
    have := px_h a b r c
    omega
  | some x =>
    cases h2 : b[c]? with
    | none =>
      simp only [Bool.false_eq_true, if_false]
      rw [px_pad_right (r + 1) h2, px_pad_right r h2]
      have := px_v a b r c
      omega
    | some y =>
      by_cases e : x = y
      · subst e
        simp only [beq_self_eq_true, if_true]
        exact px_same h1 h2
      · have e' : (x == y) = false := by simpa using e
        simp only [e', Bool.false_eq_true, if_false]
        exact px_other h1 h2 e

end Go.Proofs.Ytncbhnmhaoblaaa

namespace Go.Proofs.Ytncbhnmhaoblaaa
open Go.RowKit

/-! ### Turned -/
/-- The numbers from place r on, turned round. -/
def TuRel (l : List Int) (w : World) (v i : Value) (wr : World) : Prop :=
  (∃ r t : Nat, r + t + 1 = l.length ∧ i = .int .i64 (r : Int) ∧ wr.ownsRow w.heap.size 3 1 v t (iv (l.drop (r + 1)).reverse) ∧ Below w.heap.size w wr) ∨ (i = .int .i64 (-1) ∧ wr.ownsRow w.heap.size 3 1 v l.length (iv l.reverse) ∧ Below w.heap.size w wr)
theorem tu_start {l : List Int} {w : World} {x : Int} (hx : x = (l.length : Int) - 1) : TuRel l w (.slice none 0 0) (.int .i64 x) w := by
  subst hx
  cases h : l.length with
  | zero =>
    have := List.eq_nil_of_length_eq_zero h
    subst this
    exact .inr ⟨by simp, by simpa [iv] using World.ownsRow_nil w _ _ _, Below.refl _ _⟩
  | succ n => exact .inl ⟨n, 0, by omega, by congr 1; omega, by rw [List.drop_of_length_le (by omega)]; exact World.ownsRow_nil _ _ _ _, Below.refl _ _⟩
theorem tu_next {l : List Int} {w wr : World} {v : Value} {r t : Nat} {x y : Int} (hr : r + t + 1 = l.length) (hx : l[r]? = some x) (hy : y = (r : Int) - 1) (h : wr.ownsRow w.heap.size 3 1 v (t + 1) (iv (l.drop (r + 1)).reverse ++ [.int .i64 x])) (hb : Below w.heap.size w wr) : TuRel l w v (.int .i64 y) wr := by
  subst hy
  have e : iv (l.drop r).reverse = iv (l.drop (r + 1)).reverse ++ [.int .i64 x] := by
    obtain ⟨g, e⟩ := List.getElem?_eq_some_iff.1 hx
    rw [List.drop_eq_getElem_cons g, e, List.reverse_cons, iv_append]
    rfl
  cases r with
  | zero => exact .inr ⟨by simp, by rw [← hr, show 0 + t + 1 = t + 1 by omega]; rw [List.drop_zero] at e; rw [e]; exact h, hb⟩
  | succ r => exact .inl ⟨r, t + 1, by omega, by congr 1; omega, by rw [e]; exact h, hb⟩

set_option maxHeartbeats 800000 in
theorem turned_any (A : Option Addr) (N c : Nat) (l : List Int) (w : World) (hN : l.length = N) (hb : N ≤ 1048576) (hr : Row w A (iv l)) :
    Calls Try.prog 43 #[.slice A N c] w (MadeI l.reverse w) := by
  subst hN
  obtain ⟨i0, hi, hz0, hz1, hz2⟩ := info_parts Try.infoInt
  go_enter Try.func43, Try.ntmps43
  go_wp2_with fail
  go_loopw [3, 4] (fun v i wr => TuRel l w v i wr) (fun _ i _ => (intOf i + 1).toNat)
  case atStart => exact tu_start (by omega)
  case round =>
    rcases hrel with ⟨r, t, hrt, rfl, hwn, hbr⟩ | ⟨rfl, hwn, hbr⟩
    · have hlt : r < l.length := by omega
      obtain ⟨g, o, rfl, hc⟩ := (hr.below hbr).int hlt
      have HX : Hid (l[r]? = some l[r]) := List.getElem?_eq_getElem hlt
      generalize l[r] = x at *
      have hsz := hbr.size
      have HB := Lib.hid hbr
      clear hr
      go_wp2_with (at_builtin; refine wpList_append_own _ rfl (.tmp 12) (.tmp 17) 26 rfl w.heap.size 3 i0 (.int .i64 0) 1 8 Try.underlying26 hi hz0 hz1 hz2 rfl (by decide) _ _ _ rfl (hwn.alloc _) ⟨wr.heap.size, 0, none⟩ 1 1 [_] rfl rfl (cell_one_new _ _ _) (one_int _ _) (by unfold maxLen; omega) (by omega) (by simp; omega) ?_)
      intro v' w3 hown' hg' _
      have R := Lib.hid (fun y hy => tu_next (y := y) hrt HX.out hy hown' ((HB.out.alloc (by omega) _).grown hg' (by simp; omega) (fun x hx => (hwn.lt x hx).1)))
      clear hown' hg' hwn hbr
      go_wp2_with fail
      go_roundw
      case rel => exact R.out _ (by omega)
      case measure => simp [intOf]
    · have HF : Hid (MadeI l.reverse w (.returned u3) wr) := ⟨u3, rfl, by rw [List.length_reverse]; exact hwn, hbr⟩
      clear hwn hbr
      go_wp2_with fail
      go_ret
      exact HF.out

/-! ### Dist -/
/-! ### Picked -/
def bvs (l : List Bool) : List Value := l.map Value.bool
theorem Row.bool {w : World} {A : Option Addr} {l : List Bool} (h : Row w A (bvs l)) {k : Nat} (hk : k < l.length) : ∃ g o, A = some ⟨g, o, none⟩ ∧ w.cell? ⟨g, o + k, none⟩ = some (.bool l[k]) := by
  obtain ⟨g, o, e, hc⟩ := h.at_ k (by simpa [bvs] using hk)
  exact ⟨g, o, e, by rw [hc]; simp [bvs]⟩
end Go.Proofs.Ytncbhnmhaoblaaa

namespace Go.Proofs.Ytncbhnmhaoblaaa
open Go.RowKit

/-- A table in memory: its rows lie in the blocks blk. -/
def Tab (f : Nat → Nat → Int) (n m T : Nat) (blk : Nat → Nat) (w : World) : Prop :=
  w.rowIs T 26 (n + 1) (fun r => .slice (some ⟨blk r, 0, none⟩) (m + 1) (m + 1)) ∧ ∀ r, r ≤ n → IsRow w (blk r) (m + 1) (f r)
theorem Tab.congr {f f' : Nat → Nat → Int} {n m T : Nat} {blk : Nat → Nat} {w : World} (h : Tab f n m T blk w) (e : ∀ r, r ≤ n → ∀ c, c ≤ m → f r c = f' r c) : Tab f' n m T blk w :=
  ⟨h.1, fun r hr => World.rowIs.congr (h.2 r hr) fun c hc => by rw [e r hr c (by omega)]⟩
theorem Tab.grown {f : Nat → Nat → Int} {n m T r0 : Nat} {blk : Nat → Nat} {w w' : World} {F : Nat → Int} (h : Tab f n m T blk w) (hg : w.grownBy w' (some (blk r0))) (hT : T ≠ blk r0) (hne : ∀ r, r ≤ n → r ≠ r0 → blk r ≠ blk r0) (hr : IsRow w' (blk r0) (m + 1) F) : Tab (fun r c => if r = r0 then F c else f r c) n m T blk w' := by
  refine ⟨rowIs_grown h.1 hg (fun e => hT (by injection e)), fun r hr' => ?_⟩
  by_cases e : r = r0
  · subst e
    simpa using hr
  · have := rowIs_grown (h.2 r hr') hg (fun e' => hne r hr' e (by injection e'))
    show w'.rowIs _ _ _ (fun c => .int .i64 (if r = r0 then F c else f r c))
    simpa [e] using this
theorem Tab.below {f : Nat → Nat → Int} {n m T : Nat} {blk : Nat → Nat} {w w' : World} (h : Tab f n m T blk w) (hb : Below w.heap.size w w') : Tab f n m T blk w' :=
  ⟨h.1.of_block (hb.block _ h.1.lt), fun r hr => (h.2 r hr).of_block (hb.block _ (World.rowIs.lt (h.2 r hr)))⟩
theorem Tab.drew {f : Nat → Nat → Int} {n m T : Nat} {blk : Nat → Nat} {w : World} (h : Tab f n m T blk w) : Tab f n m T blk w.drew := h

end Go.Proofs.Ytncbhnmhaoblaaa
