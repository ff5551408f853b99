/-
  Plain mathematics of chapter 1: a text's tokens. No program, no world.
-/
namespace Go.Proofs.Ytjhadoglcmhloaa

/-- The length of the first line of a text, its line feed counted in. -/
def nl : List UInt8 → Nat
  | [] => 0
  | c :: r => if c = 10 then 1 else nl r + 1

def lines : List UInt8 → List (List UInt8)
  | [] => []
  | c :: r => if c = 10 then [c] :: lines r else match lines r with
    | [] => [[c]]
    | t :: ts => (c :: t) :: ts

/-- The tokens of a text: mode 0: each byte; any other: lines. -/
def cut (m : Int) (l : List UInt8) : List (List UInt8) := if m = 0 then l.map fun c => [c] else lines l

/-- The first token's length. -/
def tlen (m : Int) (l : List UInt8) : Nat := if m = 0 then 1 else nl l

/-- Can it be a token? -/
def isTok (m : Int) (l : List UInt8) : Bool := (m == 0 || m == 1) && (decide (0 < l.length) && (tlen m l == l.length))

theorem nl_le (l : List UInt8) : nl l ≤ l.length := by
  induction l with
  | nil => simp [nl]
  | cons c r ih => simp only [nl, List.length_cons]; split <;> omega

theorem nl_pos {l : List UInt8} (h : l ≠ []) : 0 < nl l := by
  cases l with
  | nil => exact absurd rfl h
  | cons c r => simp only [nl]; split <;> omega

theorem lines_step (l : List UInt8) (h : l ≠ []) : lines l = l.take (nl l) :: lines (l.drop (nl l)) := by
  induction l with
  | nil => exact absurd rfl h
  | cons c r ih =>
    simp only [lines, nl]
    by_cases hc : c = 10
    · simp [hc]
    · simp only [hc, if_false]
      cases r with
      | nil => simp [lines, nl]
      | cons d s =>
        have := ih (by simp)
        rw [this]
        simp

theorem tlen_le {m : Int} {l : List UInt8} (h : l ≠ []) : tlen m l ≤ l.length := by
  unfold tlen; split
  · cases l with
    | nil => exact absurd rfl h
    | cons => simp
  · exact nl_le l

theorem tlen_pos {m : Int} {l : List UInt8} (h : l ≠ []) : 0 < tlen m l := by
  unfold tlen; split
  · omega
  · exact nl_pos h

theorem cut_step (m : Int) (l : List UInt8) (h : l ≠ []) : cut m l = l.take (tlen m l) :: cut m (l.drop (tlen m l)) := by
  unfold cut tlen
  split
  · cases l with
    | nil => exact absurd rfl h
    | cons c r => simp
  · exact lines_step l h

theorem cut_nil (m : Int) : cut m [] = [] := by unfold cut; split <;> simp [lines]

theorem drop_ne {l : List UInt8} {k : Nat} (h : k < l.length) : l.drop k ≠ [] := by
  intro e
  have := congrArg List.length e
  simp at this
  omega

/-- One token further on. -/
theorem cut_at (m : Int) (l : List UInt8) (k : Nat) (h : k < l.length) :
    cut m (l.drop k) = (l.drop k).take (tlen m (l.drop k)) :: cut m (l.drop (k + tlen m (l.drop k))) := by
  rw [cut_step m _ (drop_ne h), List.drop_drop]

theorem nl_at (l : List UInt8) (k : Nat) (h : k < l.length) : nl (l.drop k) = if l[k] = 10 then 1 else nl (l.drop (k + 1)) + 1 := by
  rw [List.drop_eq_getElem_cons h, nl]

theorem cut_len (m : Int) (l : List UInt8) : (cut m l).length ≤ l.length := by
  unfold cut; split
  · simp
  · induction l with
    | nil => simp [lines]
    | cons c r ih =>
      simp only [lines]
      split
      · simp; omega
      · split
        · simp
        · rename_i h; rw [h] at ih; simp at ih ⊢; omega

theorem lines_flatten (l : List UInt8) : (lines l).flatten = l := by
  induction l with
  | nil => simp [lines]
  | cons c r ih =>
    simp only [lines]
    split
    · simp [ih]
    · split
      · rename_i h; rw [h] at ih; simp at ih; simp [← ih]
      · rename_i h; rw [h] at ih; simp at ih; simp [ih]

/-- What is cut is joined as it was. -/
theorem cut_flatten (m : Int) (l : List UInt8) : (cut m l).flatten = l := by
  unfold cut; split
  · induction l with
    | nil => simp
    | cons c r ih => simpa using ih
  · exact lines_flatten l

end Go.Proofs.Ytjhadoglcmhloaa
