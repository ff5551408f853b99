/-
  Chapter 12, plain: rows as steps, steps as rows, keys.
-/
import Derived.Test.YtakefhmahngdeaaRwP
import Derived.Test.YtakefhmahngdeaaLow
namespace Go.Proofs.Ytakefhmahngdeaa
open Go.RowKit

/-- Up to number k each is the one ahead of it, or 1 more. -/
def okS (row : List Int) : Nat → Bool
  | 0 => true
  | k + 1 => okS row k && (decide (nth row (k + 1) = nth row k) || decide (nth row (k + 1) = nth row k + 1))
def bitS (row : List Int) (k : Nat) : UInt8 := if nth row (k + 1) = nth row k then 0 else 1
def stpS (row : List Int) : Nat → List UInt8
  | 0 => []
  | k + 1 => stpS row k ++ [bitS row k]
/-- The row can be told by steps. -/
def isS (row : List Int) : Bool := decide (row ≠ []) && okS row (row.length - 1)
def stepsL (row : List Int) : List UInt8 := if isS row = true then stpS row (row.length - 1) else []
def errS (row : List Int) : Int := if isS row = true then 0 else 1

theorem stpS_length (row : List Int) : ∀ k, (stpS row k).length = k
  | 0 => rfl
  | k + 1 => by rw [stpS, List.length_append, stpS_length row k]; rfl
theorem stpS_get (row : List Int) : ∀ (n k : Nat), k < n → (stpS row n)[k]? = some (bitS row k)
  | 0, k, h => by omega
  | n + 1, k, h => by
    rw [stpS]
    by_cases e : k < n
    · rw [List.getElem?_append_left (by rw [stpS_length]; exact e), stpS_get row n k e]
    · obtain rfl : k = n := by omega
      rw [List.getElem?_append_right (by rw [stpS_length]; exact Nat.le_refl _), stpS_length, Nat.sub_self]
      rfl
theorem okS_less {row : List Int} : ∀ {n k : Nat}, k ≤ n → okS row n = true → okS row k = true
  | 0, k, h, e => by obtain rfl : k = 0 := by omega
                     exact e
  | n + 1, k, h, e => by
    by_cases hk : k = n + 1
    · subst hk; exact e
    · rw [okS, Bool.and_eq_true] at e
      exact okS_less (by omega) e.1
theorem okS_same {row : List Int} {k : Nat} (h : okS row k = true) (e : nth row (k + 1) = nth row k) : okS row (k + 1) = true := by
  rw [okS, h, decide_eq_true e]; rfl
theorem okS_up {row : List Int} {k : Nat} (h : okS row k = true) (e : nth row (k + 1) = nth row k + 1) : okS row (k + 1) = true := by
  rw [okS, h, decide_eq_true e]; simp
theorem okS_not {row : List Int} {k : Nat} (e : nth row (k + 1) ≠ nth row k) (e' : nth row (k + 1) ≠ nth row k + 1) : okS row (k + 1) = false := by
  rw [okS, decide_eq_false e, decide_eq_false e']; simp
theorem isS_yes {row : List Int} {N : Nat} (hn : row.length = N + 1) (h : okS row N = true) : isS row = true ∧ stepsL row = stpS row N ∧ errS row = 0 := by
  have e : isS row = true := by
    unfold isS
    rw [hn, Nat.add_sub_cancel, h, decide_eq_true (by intro e; rw [e] at hn; simp at hn)]; rfl
  refine ⟨e, ?_, ?_⟩
  · unfold stepsL; rw [if_pos e, hn, Nat.add_sub_cancel]
  · unfold errS; rw [if_pos e]
theorem isS_no {row : List Int} (h : isS row = false) : stepsL row = [] ∧ errS row = 1 := by
  unfold stepsL errS
  rw [h]
  exact ⟨rfl, rfl⟩
theorem isS_nil : isS [] = false := rfl
theorem isS_bad {row : List Int} {N k : Nat} (hn : row.length = N + 1) (hk : k < N) (h : okS row (k + 1) = false) : isS row = false := by
  unfold isS
  rw [hn, Nat.add_sub_cancel]
  cases e : okS row N with
  | false => simp
  | true => rw [okS_less (k := k + 1) (by omega) e] at h; cases h

/-- The first k steps, and noughts. -/
def dS (row : List Int) (N k : Nat) : List UInt8 := stpS row k ++ List.replicate (N - k) 0
theorem dS_length {row : List Int} {N k : Nat} (h : k ≤ N) : (dS row N k).length = N := by
  unfold dS
  rw [List.length_append, stpS_length, List.length_replicate]
  omega
theorem dS_zero (row : List Int) (N : Nat) : dS row N 0 = List.replicate N 0 := rfl
theorem dS_all (row : List Int) (N : Nat) : dS row N N = stpS row N := by unfold dS; simp
theorem dS_cut {row : List Int} {N k : Nat} (h : k < N) : dS row N k = stpS row k ++ 0 :: List.replicate (N - (k + 1)) 0 := by
  unfold dS
  rw [show N - k = (N - (k + 1)) + 1 by omega, List.replicate_succ]
theorem dS_same {row : List Int} {N k : Nat} (h : k < N) (e : nth row (k + 1) = nth row k) : dS row N (k + 1) = dS row N k := by
  rw [dS_cut h]
  unfold dS
  rw [stpS, show bitS row k = 0 from if_pos e]
  simp
theorem dS_up {row : List Int} {N k : Nat} (h : k < N) (e : nth row (k + 1) ≠ nth row k) : dS row N (k + 1) = (dS row N k).set k 1 := by
  rw [dS_cut h, List.set_append_right _ _ (by rw [stpS_length]; exact Nat.le_refl _), stpS_length, Nat.sub_self]
  unfold dS
  rw [stpS, show bitS row k = 1 from if_neg e]
  simp
theorem dS_get {row : List Int} {N k : Nat} (h : k < N) : (dS row N k)[k]? = some 0 := by
  rw [dS_cut h, List.getElem?_append_right (by rw [stpS_length]; exact Nat.le_refl _), stpS_length, Nat.sub_self]
  rfl

/-- A row out of its first number and its steps. -/
def bget (d : List UInt8) (k : Nat) : UInt8 := d[k]?.getD 0
def rowD (first : Int) (d : List UInt8) : Nat → Int
  | 0 => first
  | k + 1 => if bget d k = 0 then rowD first d k else IntKind.i64.wrap (rowD first d k + 1)
def rowDL (first : Int) (d : List UInt8) : List Int := rowL d.length (rowD first d)
theorem bget_of {d : List UInt8} {k : Nat} {x : UInt8} (h : d[k]? = some x) : bget d k = x := by unfold bget; rw [h]; rfl
theorem rowDL_length (first : Int) (d : List UInt8) : (rowDL first d).length = d.length + 1 := rowL_length _ _
theorem nth_rowDL {first : Int} {d : List UInt8} {c : Nat} (h : c ≤ d.length) : nth (rowDL first d) c = rowD first d c := nth_rowL h

/-- How many of the t places from at on the steps have. -/
def prt (n : Nat) (at' t : Int) : Nat := if 0 ≤ at' ∧ 1 ≤ t ∧ t ≤ 3 then min t.toNat (n - at'.toNat) else 0
theorem prt_le (n : Nat) (at' t : Int) : prt n at' t ≤ 3 := by unfold prt; split <;> omega
theorem prt_in {n : Nat} {at' t : Int} (h : 0 < prt n at' t) : 0 ≤ at' ∧ at'.toNat + prt n at' t ≤ n := by
  unfold prt at h ⊢
  split at h
  · rename_i g
    rw [if_pos g]
    omega
  · omega
theorem prt_out {n : Nat} {at' t : Int} (h : ¬ (0 ≤ at' ∧ 1 ≤ t ∧ t ≤ 3)) : prt n at' t = 0 := if_neg h
theorem prt_is {n : Nat} {at' t : Int} (h : 0 ≤ at' ∧ 1 ≤ t ∧ t ≤ 3) : prt n at' t = min t.toNat (n - at'.toNat) := if_pos h

/-- The key of k places from place s on. -/
def keyN (d : List UInt8) (s : Nat) : Nat → Nat
  | 0 => 0
  | k + 1 => if bget d (s + k) = 0 then keyN d s k else keyN d s k + 2 ^ k
theorem keyN_lt (d : List UInt8) (s : Nat) : ∀ k, keyN d s k < 2 ^ k
  | 0 => by simp [keyN]
  | k + 1 => by
    have := keyN_lt d s k
    rw [keyN, Nat.pow_succ]
    split <;> omega
def keyL (d : List UInt8) (at' t : Int) : Nat := keyN d at'.toNat (prt d.length at' t)

/-- Bit k of a key, as a byte. -/
def bitB (key : Int) (k : Nat) : UInt8 := UInt8.ofNat (key / 2 ^ k % 2).toNat
theorem bitB_nat (key : Int) (k : Nat) : ((bitB key k).toNat : Int) = key / 2 ^ k % 2 := by
  unfold bitB
  rw [UInt8.toNat_ofNat']
  omega
/-- k places from place s on are the bits of a key. -/
def putN (d : List UInt8) (s : Nat) (key : Int) : Nat → List UInt8
  | 0 => d
  | k + 1 => (putN d s key k).set (s + k) (bitB key k)
theorem putN_length (d : List UInt8) (s : Nat) (key : Int) : ∀ k, (putN d s key k).length = d.length
  | 0 => rfl
  | k + 1 => by rw [putN, List.length_set, putN_length d s key k]
def putL (d : List UInt8) (at' t key : Int) : List UInt8 := putN d at'.toNat key (prt d.length at' t)
theorem putL_length (d : List UInt8) (at' t key : Int) : (putL d at' t key).length = d.length := putN_length _ _ _ _

theorem bv_set (l : List UInt8) (i : Nat) (b : UInt8) : (bv l).set i (.int .u8 (b.toNat : Int)) = bv (l.set i b) := by
  unfold bv
  rw [List.map_set]

end Go.Proofs.Ytakefhmahngdeaa
