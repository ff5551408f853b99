/-
  Words for the statements of layer 9.
-/
import Derived.Test.YtobijkjonnoeiaaLsO
import Derived.Test.YtobijkjonnoeiaaLe2
import Derived.Test.YtobijkjonnoeiaaPrU
import Derived.Test.YtobijkjonnoeiaaPrL
import Derived.Test.YtobijkjonnoeiaaKnK
namespace Go.Proofs.Ytobijkjonnoeiaa
open Go.RowKit

theorem rleast_any (A B : Option Addr) (n m c d : Nat) (a b : List Int) (w : World) (hn : a.length = n) (hm : b.length = m) (hb : n ≤ 1048576) (hb' : m ≤ 1048576) (h1 : Row w A (iv a)) (h2 : Row w B (iv b)) :
    Calls Try.prog 13 #[.slice A n c, .slice B m d] w (MadeP (lst a b) w) := by
  refine (least_any A B n m c d a b w hn hm hb hb' h1 h2).mono ?_
  rintro e w' ⟨v, l, i, j, rfl, hch, hl, hv, hB⟩
  rw [chain_end hch hl] at hv
  exact ⟨v, rfl, hv, hB⟩

/-- Whatever the world. -/
def AnyW (w : World) : Prop := w = w
theorem anyW (w : World) : AnyW w := rfl
theorem cell_al {w : World} {p : Addr} {v : Value} (h : w.cell? p = some v) (o : Obj) : (w.alloc o).cell? p = some v :=
  (((Below.refl _ w).alloc (Nat.le_refl _) o).cell (p := p) (World.block_lt_of_cell? _ _ h)).trans h

theorem cell_low {w w' : World} {p : Addr} {v : Value} (h : w.cell? p = some v) (hb : Below w.heap.size w w') : w'.cell? p = some v :=
  (hb.cell (p := p) (World.block_lt_of_cell? _ _ h)).trans h
theorem pv_drop : ∀ (l : List Pr) (k : Nat), (pv l).drop (k * 2) = pv (l.drop k)
  | [], k => by simp [pv]
  | p :: l, 0 => rfl
  | p :: l, k + 1 => by
    rw [pv_cons, show (k + 1) * 2 = k * 2 + 1 + 1 by omega, List.drop_succ_cons, List.drop_succ_cons, pv_drop l k, List.drop_succ_cons]
theorem size_pair (w : World) : (sizeOf (Try.prog.elem 22)).run Try.prog w = .ok 2 w := by
  rfl
/-- l[lo:]. -/
theorem slice_fromP (A : Option Addr) (n c lo : Nat) (l : List Pr) (h : l.length = n) (hc : n ≤ c) (hlo : lo ≤ n) :
    ∃ A' c', (∀ w, (Instr.sliceAt 22 (.slice A n c) (some (.int .i64 (lo : Int))) none none).run Try.prog w = .ok (.slice A' (n - lo) c') w) ∧ ∀ w0, Row w0 A (pv l) → Row w0 A' (pv (l.drop lo)) := by
  refine ⟨if c = lo then A else A.map (·.add (lo * 2)), c - lo, fun w => ?_, fun w0 hr => ?_⟩
  · rw [run_sliceAt_slice w 22 _ _ _ _ Try.underlying22, run_slice_l w 22 A n c Try.underlying22 .i64 (lo : Int) (by omega) (by omega), size_pair]
    simp [Result.andThen, sliced]
  · by_cases e : c = lo
    · rw [if_pos e, List.drop_eq_nil_of_le (by omega)]
      exact Row.nil _ _
    · rw [if_neg e, ← pv_drop]
      exact hr.drop (lo * 2)

theorem moveGo_sh {a b : List Int} {s t i j : Nat} (ha : a.length + i ≤ 1048576) (hb : b.length + j ≤ 1048576) : ∀ {l : List Pr}, Ga a b s t l → moveP l (i : Int) (j : Int) = sh i j l := by
  intro l
  induction l generalizing s t with
  | nil => intro _; rfl
  | cons p l ih =>
    rintro ⟨x, y, u, rfl, _, _, hx, hy, h⟩
    have h1 := (List.getElem?_eq_some_iff.1 hx).1
    have h2 := (List.getElem?_eq_some_iff.1 hy).1
    show movP _ _ _ :: moveP l _ _ = _ :: sh i j l
    rw [ih h]
    congr 1
    unfold movP
    rw [IntWalk.wrap64_in _ (by simp only; omega), IntWalk.wrap64_in _ (by simp only; omega)]
theorem move_sh {a b : List Int} {i j : Nat} (ha : a.length + i ≤ 1048576) (hb : b.length + j ≤ 1048576) : moveP (lst a b) (i : Int) (j : Int) = sh i j (lst a b) := moveGo_sh ha hb (lst_lea a b).1
theorem lst_le (a b : List Int) : (lst a b).length ≤ a.length := by rw [lst_length]; exact lcs_le_left a b
theorem diag_length (n : Nat) : (diag n).length = n := by simp [diag]
theorem diag_get {n k : Nat} (h : k < n) (s : List Pr) : (diag n ++ s)[k]? = some ((k : Int), (k : Int)) := by
  rw [List.getElem?_append_left (by rw [diag_length]; exact h)]
  simp [diag, h]
theorem diag_drop (n : Nat) (s : List Pr) : (diag n ++ s).drop n = s := by
  rw [List.drop_append_of_le_length (by rw [diag_length]; exact Nat.le_refl _), List.drop_eq_nil_of_le (by rw [diag_length]; exact Nat.le_refl _)]
  rfl

end Go.Proofs.Ytobijkjonnoeiaa
