/-
  Plain mathematics of chapter 1: a text's tokens. No program, no world.
-/
namespace Go.Proofs.Ytjhadoglcmhloaa

/-- The length of the first line of a text, its line feed counted in. -/
def nl : List UInt8 → Nat
  | [] => 0
  | c :: r => if c = 10 then 1 else nl r + 1

def lines : List UInt8 → List (List UInt8)
  | [] => []
  | c :: r => if c = 10 then [c] :: lines r else match lines r with
    | [] => [[c]]
    | t :: ts => (c :: t) :: ts

/-- The tokens of a text: mode 0: each byte; any other: lines. -/
def cut (m : Int) (l : List UInt8) : List (List UInt8) := if m = 0 then l.map fun c => [c] else lines l

/-- The first token's length. -/
def tlen (m : Int) (l : List UInt8) : Nat := if m = 0 then 1 else nl l

/-- Can it be a token? -/
def isTok (m : Int) (l : List UInt8) : Bool := (m == 0 || m == 1) && (decide (0 < l.length) && (tlen m l == l.length))

theorem nl_le (l : List UInt8) : nl l ≤ l.length := by
  induction l with
  | nil => simp [nl]
  | cons c r ih => simp only [nl, List.length_cons]; split <;> omega

theorem nl_pos {l : List UInt8} (h : l ≠ []) : 0 < nl l := by
  cases l with
  | nil => exact absurd rfl h
  | cons c r => simp only [nl]; split <;> omega

theorem lines_step (l : List UInt8) (h : l ≠ []) : lines l = l.take (nl l) :: lines (l.drop (nl l)) := by
  induction l with
  | nil => exact absurd rfl h
  | cons c r ih =>
    simp only [lines, nl]
    by_cases hc : c = 10
    · simp [hc]
    · simp only [hc, if_false]
      cases r with
      | nil => simp [lines, nl]
      | cons d s =>
        have := ih (by simp)
        rw [this]
        simp

theorem tlen_le {m : Int} {l : List UInt8} (h : l ≠ []) : tlen m l ≤ l.length := by
  unfold tlen; split
  · cases l with
    | nil => exact absurd rfl h
    | cons => simp
  · exact nl_le l

theorem tlen_pos {m : Int} {l : List UInt8} (h : l ≠ []) : 0 < tlen m l := by
  unfold tlen; split
  · omega
  · exact nl_pos h

theorem cut_step (m : Int) (l : List UInt8) (h : l ≠ []) : cut m l = l.take (tlen m l) :: cut m (l.drop (tlen m l)) := by
  unfold cut tlen
  split
  · cases l with
    | nil => exact absurd rfl h
    | cons c r => simp
  · exact lines_step l h

theorem cut_nil (m : Int) : cut m [] = [] := by unfold cut; split <;> simp [lines]

theorem drop_ne {l : List UInt8} {k : Nat} (h : k < l.length) : l.drop k ≠ [] := by
  intro e
  have := congrArg List.length e
  simp at this
  omega

/-- One token further on. -/
theorem cut_at (m : Int) (l : List UInt8) (k : Nat) (h : k < l.length) :
    cut m (l.drop k) = (l.drop k).take (tlen m (l.drop k)) :: cut m (l.drop (k + tlen m (l.drop k))) := by
  rw [cut_step m _ (drop_ne h), List.drop_drop]

theorem nl_at (l : List UInt8) (k : Nat) (h : k < l.length) : nl (l.drop k) = if l[k] = 10 then 1 else nl (l.drop (k + 1)) + 1 := by
  rw [List.drop_eq_getElem_cons h, nl]

theorem cut_len (m : Int) (l : List UInt8) : (cut m l).length ≤ l.length := by
  unfold cut; split
  · simp
  · induction l with
    | nil => simp [lines]
    | cons c r ih =>
      simp only [lines]
      split
      · simp; omega
      · split
        · simp
        · rename_i h; rw [h] at ih; simp at ih ⊢; omega

theorem lines_flatten (l : List UInt8) : (lines l).flatten = l := by
  induction l with
  | nil => simp [lines]
  | cons c r ih =>
    simp only [lines]
    split
    · simp [ih]
    · split
      · rename_i h; rw [h] at ih; simp at ih; simp [← ih]
      · rename_i h; rw [h] at ih; simp at ih; simp [ih]

/-- What is cut is joined as it was. -/
theorem cut_flatten (m : Int) (l : List UInt8) : (cut m l).flatten = l := by
  unfold cut; split
  · induction l with
    | nil => simp
    | cons c r ih => simpa using ih
  · exact lines_flatten l

theorem lines_tok (l : List UInt8) : ∀ t ∈ lines l, t ≠ [] ∧ nl t = t.length := by
  induction l with
  | nil => simp [lines]
  | cons c r ih =>
    simp only [lines]
    split
    · rename_i h
      intro t ht
      rcases List.mem_cons.1 ht with e | e
      · subst e
        exact ⟨by simp, by simp [nl, h]⟩
      · exact ih t e
    · rename_i h
      split
      · intro t ht
        rw [List.mem_singleton] at ht
        subst ht
        exact ⟨by simp, by simp [nl, h]⟩
      · rename_i t ts hl
        intro u hu
        rcases List.mem_cons.1 hu with e | e
        · subst e
          have := (ih t (by rw [hl]; simp)).2
          exact ⟨by simp, by simp [nl, h, this]⟩
        · exact ih u (by rw [hl]; simp [e])

/-- Every line but the last one ends with a line feed. -/
theorem lines_ends (l : List UInt8) : ∀ k, k + 1 < (lines l).length → ((lines l)[k]?).bind List.getLast? = some 10 := by
  induction l with
  | nil => intro k h; simp [lines] at h
  | cons c r ih =>
    intro k
    simp only [lines]
    split
    · rename_i h
      intro hk
      cases k with
      | zero => simp [h]
      | succ k =>
        simp only [List.length_cons] at hk
        simpa using ih k (by omega)
    · rename_i h
      split
      · intro hk; simp at hk
      · rename_i t ts hl
        intro hk
        rw [hl] at ih
        simp only [List.length_cons] at hk ih
        cases k with
        | zero =>
          have h0 := ih 0 (by omega)
          have hne := (lines_tok r t (by rw [hl]; simp)).1
          simp only [List.getElem?_cons_zero, Option.bind_some] at h0 ⊢
          cases t with
          | nil => exact absurd rfl hne
          | cons d s => rw [List.getLast?_cons_cons]; exact h0
        | succ k => simpa using ih (k + 1) (by omega)

theorem cut_tok {m : Int} (hv : (m == 0 || m == 1) = true) (l : List UInt8) : ∀ t ∈ cut m l, isTok m t = true := by
  intro t ht
  unfold isTok
  rw [hv]
  unfold cut at ht
  unfold tlen
  by_cases hm : m = 0
  · rw [if_pos hm] at ht
    rw [if_pos hm]
    obtain ⟨c, _, rfl⟩ := List.mem_map.1 ht
    simp
  · rw [if_neg hm] at ht
    rw [if_neg hm]
    obtain ⟨h1, h2⟩ := lines_tok l t ht
    have : 0 < t.length := by cases t with | nil => exact absurd rfl h1 | cons => simp
    simp [this, h2]

/-- The same, as the walk asks for it: the last byte of a line that is not the last one. -/
theorem line_last (l : List UInt8) (k : Nat) (h : k + 1 < (lines l).length) : ∃ hp : (lines l)[k].length - 1 < (lines l)[k].length, (lines l)[k][(lines l)[k].length - 1] = 10 := by
  have h1 := lines_ends l k h
  rw [List.getElem?_eq_getElem (by omega)] at h1
  simp only [Option.bind_some] at h1
  have hne := (lines_tok l (lines l)[k] (List.getElem_mem _)).1
  have hp : 0 < (lines l)[k].length := by
    cases hx : (lines l)[k] with
    | nil => exact absurd hx hne
    | cons => simp
  refine ⟨by omega, ?_⟩
  rw [List.getLast?_eq_getElem?, List.getElem?_eq_getElem (by omega)] at h1
  exact Option.some.inj h1

theorem lines_append (l r : List UInt8) : lines ((l ++ [10]) ++ r) = lines (l ++ [10]) ++ lines r := by
  induction l with
  | nil => simp [lines]
  | cons c l ih =>
    simp only [List.cons_append, lines]
    by_cases hc : c = 10
    · simp only [hc, if_true, List.cons_append]
      rw [ih]
    · simp only [hc, if_false]
      rw [ih]
      cases hx : lines (l ++ [10]) with
      | nil =>
        have := congrArg List.flatten hx
        rw [lines_flatten] at this
        simp at this
      | cons t ts => simp

theorem cut_append_bytes (l r : List UInt8) : cut 0 (l ++ r) = cut 0 l ++ cut 0 r := by simp [cut]
theorem cut_append_lines (l r : List UInt8) : cut 1 ((l ++ [10]) ++ r) = cut 1 (l ++ [10]) ++ cut 1 r := by
  have h := lines_append l r
  simpa [cut] using h

end Go.Proofs.Ytjhadoglcmhloaa
