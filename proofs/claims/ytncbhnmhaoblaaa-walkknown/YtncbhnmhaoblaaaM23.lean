/-
  Words and contracts that the proof leans on.
-/
import Derived.Test.YtncbhnmhaoblaaaM4
import Derived.Test.YtncbhnmhaoblaaaM3
namespace Go.Proofs.Ytncbhnmhaoblaaa
open Go.RowKit

/-- A pair of places that are alike. -/
def okP (a b : List Int) (c : Pr) : Bool := decide (0 ≤ c.1 ∧ c.1 < (a.length : Int) ∧ 0 ≤ c.2 ∧ c.2 < (b.length : Int) ∧ a[c.1.toNat]? = b[c.2.toNat]?)
def rises : Option Pr → Pr → Bool
  | none, _ => true
  | some p, c => decide (p.1 < c.1 ∧ p.2 < c.2)
def goodGo (a b : List Int) : Option Pr → List Pr → Bool
  | _, [] => true
  | p, c :: l => okP a b c && rises p c && goodGo a b (some c) l
/-- The list is valid. -/
def goodB (a b : List Int) (l : List Pr) : Bool := goodGo a b none l
theorem okP_yes {a b : List Int} {x y : Nat} {u : Int} (h1 : a[x]? = some u) (h2 : b[y]? = some u) : okP a b ((x : Int), (y : Int)) = true := by
  have g1 := (List.getElem?_eq_some_iff.1 h1).1
  have g2 := (List.getElem?_eq_some_iff.1 h2).1
  unfold okP
  rw [decide_eq_true]
  refine ⟨by simp, by simp; omega, by simp, by simp; omega, ?_⟩
  simp [h1, h2]

end Go.Proofs.Ytncbhnmhaoblaaa

namespace Go.Proofs.Ytncbhnmhaoblaaa

def lastOr (o : Option Pr) : List Pr → Option Pr
  | [] => o
  | c :: l => lastOr (some c) l
theorem goodGo_snoc (a b : List Int) (c : Pr) : ∀ (l : List Pr) (o : Option Pr), goodGo a b o (l ++ [c]) = (goodGo a b o l && (okP a b c && rises (lastOr o l) c))
  | [], o => by simp [goodGo, lastOr]
  | x :: l, o => by
    rw [List.cons_append]
    show (okP a b x && rises o x && goodGo a b (some x) (l ++ [c])) = (okP a b x && rises o x && goodGo a b (some x) l && _)
    rw [goodGo_snoc a b c l (some x), Bool.and_assoc (okP a b x && rises o x)]
    rfl
theorem lastOr_snoc (c : Pr) : ∀ (l : List Pr) (o : Option Pr), lastOr o (l ++ [c]) = some c
  | [], _ => rfl
  | x :: l, _ => lastOr_snoc c l (some x)
/-- The pairs are good, and lie ahead of r and s. -/
def OkTo (a b : List Int) (l : List Pr) (r s : Nat) : Prop := goodB a b l = true ∧ ∀ p, lastOr none l = some p → p.1 < (r : Int) ∧ p.2 < (s : Int)
theorem ok_more {a b : List Int} {l : List Pr} {r s r' s' : Nat} (h : OkTo a b l r s) (hr : r ≤ r') (hs : s ≤ s') : OkTo a b l r' s' := ⟨h.1, fun p hp => by have := h.2 p hp; omega⟩
theorem ok_snoc {a b : List Int} {l : List Pr} {r s : Nat} {x : Int} (h : OkTo a b l r s) (h1 : a[r]? = some x) (h2 : b[s]? = some x) : OkTo a b (l ++ [((r : Int), (s : Int))]) (r + 1) (s + 1) := by
  refine ⟨?_, fun p hp => ?_⟩
  · unfold goodB
    rw [goodGo_snoc, okP_yes h1 h2, Bool.true_and, show goodGo a b none l = true from h.1, Bool.true_and]
    cases e : lastOr none l with
    | none => rfl
    | some p => exact decide_eq_true (h.2 p e)
  · rw [lastOr_snoc] at hp
    cases hp
    constructor <;> (show (_ : Int) < _; simp only; omega)

end Go.Proofs.Ytncbhnmhaoblaaa

namespace Go.Proofs.Ytncbhnmhaoblaaa
open Go.RowKit

theorem iv_dropX (l : List Int) (k : Nat) : (iv l).drop k = iv (l.drop k) := by simp [iv, List.map_drop]
theorem iv_takeX (l : List Int) (k : Nat) : (iv l).take k = iv (l.take k) := by simp [iv, List.map_take]

set_option maxRecDepth 100000 in
theorem size_int (w : World) : (sizeOf (Try.prog.elem 26)).run Try.prog w = .ok 1 w := by
  rfl

set_option maxRecDepth 100000 in
/-- l[lo:]. -/
theorem slice_from (A : Option Addr) (n c lo : Nat) (l : List Int) (w0 : World) (h : Row w0 A (iv l)) (hn : l.length = n) (hc : n ≤ c) (hlo : lo ≤ n) :
    ∃ A' c', (∀ w, (Instr.sliceAt 26 (.slice A n c) (some (.int .i64 (lo : Int))) none none).run Try.prog w = .ok (.slice A' (n - lo) c') w) ∧ n - lo ≤ c' ∧ Row w0 A' (iv (l.drop lo)) := by
  refine ⟨if c = lo then A else A.map (·.add (lo * 1)), c - lo, fun w => ?_, by omega, ?_⟩
  · rw [run_sliceAt_slice w 26 _ _ _ _ Try.underlying26, run_slice_l w 26 A n c Try.underlying26 .i64 (lo : Int) (by omega) (by omega), size_int]
    simp [Result.andThen, sliced]
  · have := h.cut lo n c hlo (by rw [iv_length]; omega) (by rw [iv_length]; omega)
    rw [iv_dropX, List.take_of_length_le (by rw [iv_length, List.length_drop]; omega)] at this
    rw [Nat.mul_one]
    exact this
set_option maxRecDepth 100000 in
/-- l[:hi]. -/
theorem slice_to (A : Option Addr) (n c hi : Nat) (l : List Int) (w0 : World) (h : Row w0 A (iv l)) (hhi : hi ≤ c) :
    (∀ w, (Instr.sliceAt 26 (.slice A n c) none (some (.int .i64 (hi : Int))) none).run Try.prog w = .ok (.slice A hi c) w) ∧ Row w0 A (iv (l.take hi)) := by
  refine ⟨fun w => ?_, ?_⟩
  · rw [run_sliceAt_slice w 26 _ _ _ _ Try.underlying26, run_slice_h w 26 A n c Try.underlying26 .i64 (hi : Int) (by omega) (by omega), size_int]
    cases A <;> simp [Result.andThen, sliced, Addr.add]
  · rw [← iv_takeX]
    exact h.take hi
end Go.Proofs.Ytncbhnmhaoblaaa

namespace Go.Proofs.Ytncbhnmhaoblaaa

/-! Step by step. -/
/-! Good ones. -/
end Go.Proofs.Ytncbhnmhaoblaaa

namespace Go.Proofs.Ytncbhnmhaoblaaa
open Go.RowKit

end Go.Proofs.Ytncbhnmhaoblaaa
