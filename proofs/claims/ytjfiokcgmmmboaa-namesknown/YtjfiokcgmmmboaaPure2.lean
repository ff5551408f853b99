/-
  Tokens in their order, plain lists: comparing, a rising list, putting one in, the places of tokens.
-/
import Derived.Lib.Bytealg
namespace Go.Proofs.Ytjfiokcgmmmboaa
open Go.Lib (compareBytes)

abbrev Bs := List UInt8

theorem u8_cases (x y : UInt8) : x < y ∨ x = y ∨ y < x := by
  rcases Nat.lt_trichotomy x.toNat y.toNat with h | h | h
  · exact .inl (UInt8.lt_iff_toNat_lt.2 h)
  · exact .inr (.inl (UInt8.toNat.inj h))
  · exact .inr (.inr (UInt8.lt_iff_toNat_lt.2 h))
theorem u8_asymm {x y : UInt8} (h : x < y) : ¬ y < x := by
  rw [UInt8.lt_iff_toNat_lt] at *; omega

theorem cb_self : ∀ a : Bs, compareBytes a a = 0
  | [] => rfl
  | x :: a => by unfold compareBytes; simp [cb_self a]
theorem cb_zero : ∀ {a b : Bs}, compareBytes a b = 0 → a = b
  | [], [], _ => rfl
  | [], _ :: _, h => by simp [compareBytes] at h
  | _ :: _, [], h => by simp [compareBytes] at h
  | x :: a, y :: b, h => by
    unfold compareBytes at h
    rcases u8_cases x y with h1 | h1 | h1
    · simp [h1] at h
    · subst h1
      simp at h
      rw [cb_zero h]
    · simp [h1, u8_asymm h1] at h
theorem cb_neg : ∀ a b : Bs, compareBytes b a = - compareBytes a b
  | [], [] => rfl
  | [], _ :: _ => by simp [compareBytes]
  | _ :: _, [] => by simp [compareBytes]
  | x :: a, y :: b => by
    unfold compareBytes
    rcases u8_cases x y with h1 | h1 | h1
    · simp [h1, u8_asymm h1]
    · subst h1
      simp [cb_neg a b]
    · simp [h1, u8_asymm h1]
theorem cb_trans : ∀ {a b c : Bs}, compareBytes a b < 0 → compareBytes b c < 0 → compareBytes a c < 0
  | [], [], _, h, _ => by simp [compareBytes] at h
  | _, _ :: _, [], _, h => by simp [compareBytes] at h
  | [], _, _ :: _, _, _ => by simp [compareBytes]
  | _ :: _, [], _, h, _ => by simp [compareBytes] at h
  | x :: a, y :: b, z :: c, h, h' => by
    unfold compareBytes at *
    rcases u8_cases x y with h1 | h1 | h1
    · rcases u8_cases y z with h2 | h2 | h2
      · have : x < z := by rw [UInt8.lt_iff_toNat_lt] at *; omega
        simp [this]
      · subst h2; simp [h1]
      · simp [h2, u8_asymm h2] at h'
    · subst h1
      rcases u8_cases x z with h2 | h2 | h2
      · simp [h2]
      · subst h2
        simp at h h' ⊢
        exact cb_trans h h'
      · simp [h2, u8_asymm h2] at h'
    · simp [h1, u8_asymm h1] at h

/-- a is below b. -/
def lb (a b : Bs) : Bool := decide (compareBytes a b < 0)
theorem lb_iff {a b : Bs} : lb a b = true ↔ compareBytes a b < 0 := by simp [lb]
theorem lb_irrefl (a : Bs) : lb a a = false := by simp [lb, cb_self]
theorem lb_trans {a b c : Bs} (h : lb a b = true) (h' : lb b c = true) : lb a c = true := lb_iff.2 (cb_trans (lb_iff.1 h) (lb_iff.1 h'))
theorem lb_tri (a b : Bs) : lb a b = true ∨ a = b ∨ lb b a = true := by
  have := cb_neg a b
  rcases Int.lt_trichotomy (compareBytes a b) 0 with h | h | h
  · exact .inl (lb_iff.2 h)
  · exact .inr (.inl (cb_zero h))
  · exact .inr (.inr (lb_iff.2 (by omega)))
theorem lb_asymm {a b : Bs} (h : lb a b = true) : lb b a = false := by
  have := cb_neg a b
  rw [lb_iff] at h
  simp [lb]; omega
theorem lb_ntrans {a b c : Bs} (h : lb a b = false) (h' : lb b c = false) : lb a c = false := by
  cases hac : lb a c with
  | false => rfl
  | true =>
    rcases lb_tri a b with h1 | h1 | h1
    · rw [h1] at h; cases h
    · subst h1; rw [hac] at h'; cases h'
    · have := lb_trans h1 hac; rw [this] at h'; cases h'

/-- Each one below all behind it. -/
def Rises (d : List Bs) : Prop := d.Pairwise fun a b => lb a b = true

theorem rises_ext : ∀ {d e : List Bs}, Rises d → Rises e → (∀ t, t ∈ d ↔ t ∈ e) → d = e
  | [], [], _, _, _ => rfl
  | [], y :: e, _, _, h => absurd ((h y).2 (by simp)) (by simp)
  | x :: d, [], _, _, h => absurd ((h x).1 (by simp)) (by simp)
  | x :: d, y :: e, hd, he, h => by
    have hd' := List.pairwise_cons.1 hd
    have he' := List.pairwise_cons.1 he
    have hxy : x = y := by
      rcases lb_tri x y with h1 | h1 | h1
      · rcases List.mem_cons.1 ((h x).1 (by simp)) with e1 | e1
        · exact e1
        · have := he'.1 x e1
          rw [lb_asymm h1] at this; cases this
      · exact h1
      · rcases List.mem_cons.1 ((h y).2 (by simp)) with e1 | e1
        · exact e1.symm
        · have := hd'.1 y e1
          rw [lb_asymm h1] at this; cases this
    subst hxy
    congr 1
    refine rises_ext hd'.2 he'.2 fun t => ⟨fun ht => ?_, fun ht => ?_⟩
    · rcases List.mem_cons.1 ((h t).1 (List.mem_cons_of_mem _ ht)) with e1 | e1
      · subst e1; have := hd'.1 t ht; rw [lb_irrefl] at this; cases this
      · exact e1
    · rcases List.mem_cons.1 ((h t).2 (List.mem_cons_of_mem _ ht)) with e1 | e1
      · subst e1; have := he'.1 t ht; rw [lb_irrefl] at this; cases this
      · exact e1

/-- t put where it belongs, if it is not there. -/
def put : List Bs → Bs → List Bs
  | [], t => [t]
  | x :: d, t => if lb x t = true then x :: put d t else if x = t then x :: d else t :: x :: d

theorem mem_put {t s : Bs} : ∀ {d : List Bs}, s ∈ put d t ↔ s ∈ d ∨ s = t
  | [] => by simp [put]
  | x :: d => by
    unfold put
    split
    · rw [List.mem_cons, mem_put, List.mem_cons, or_assoc]
    · split
      · rename_i h; subst h
        constructor
        · exact .inl
        · rintro (h | h)
          · exact h
          · subst h; simp
      · constructor
        · intro h
          rcases List.mem_cons.1 h with e | e
          · exact .inr e
          · exact .inl e
        · rintro (h | h)
          · exact List.mem_cons_of_mem _ h
          · subst h; simp

theorem rises_put {t : Bs} : ∀ {d : List Bs}, Rises d → Rises (put d t)
  | [], _ => by simp [put, Rises]
  | x :: d, h => by
    have h' := List.pairwise_cons.1 h
    unfold put
    split
    · rename_i hx
      refine List.pairwise_cons.2 ⟨fun s hs => ?_, rises_put h'.2⟩
      rcases mem_put.1 hs with e | e
      · exact h'.1 s e
      · subst e; exact hx
    · split
      · exact h
      · rename_i h1 h2
        have htx : lb t x = true := by
          rcases lb_tri x t with e | e | e
          · exact absurd e h1
          · exact absurd e h2
          · exact e
        refine List.pairwise_cons.2 ⟨fun s hs => ?_, h⟩
        rcases List.mem_cons.1 hs with e | e
        · subst e; exact htx
        · exact lb_trans htx (h'.1 s e)

/-- Where the search from the front has come to. -/
theorem put_at {t : Bs} : ∀ {d : List Bs} (k : Nat), k ≤ d.length → (∀ i (h : i < d.length), i < k → lb d[i] t = true) → (∀ h : k < d.length, lb d[k] t = false) →
    put d t = if d[k]? = some t then d else d.take k ++ t :: d.drop k
  | [], k, hk, _, _ => by
    have : k = 0 := by simpa using hk
    subst this
    simp [put]
  | x :: d, 0, _, _, h => by
    have h0 := h (by simp)
    simp only [List.getElem_cons_zero] at h0
    unfold put
    simp [h0]
  | x :: d, k + 1, hk, hlt, h => by
    have h0 := hlt 0 (by simp) (by omega)
    simp only [List.getElem_cons_zero] at h0
    have ih := put_at (d := d) (t := t) k (by simpa using hk) (fun i hi hik => by have := hlt (i + 1) (by simpa using hi) (by omega); simpa using this) (fun hk' => by have := h (by simpa using hk'); simpa using this)
    unfold put
    rw [if_pos h0, ih]
    simp only [List.getElem?_cons_succ, List.take_succ_cons, List.drop_succ_cons, List.cons_append]
    split <;> rfl

/-- All of l, each one once, rising. -/
def sortU (l : List Bs) : List Bs := l.foldl put []
theorem foldl_put (l : List Bs) : ∀ d : List Bs, Rises d → Rises (l.foldl put d) ∧ ∀ t, t ∈ l.foldl put d ↔ t ∈ d ∨ t ∈ l := by
  induction l with
  | nil => intro d h; exact ⟨h, fun t => by simp⟩
  | cons x l ih =>
    intro d h
    obtain ⟨h1, h2⟩ := ih (put d x) (rises_put h)
    refine ⟨h1, fun t => ?_⟩
    rw [List.foldl_cons, h2 t, mem_put, List.mem_cons, or_assoc]
theorem rises_sortU (l : List Bs) : Rises (sortU l) := (foldl_put l [] List.Pairwise.nil).1
theorem mem_sortU {l : List Bs} {t : Bs} : t ∈ sortU l ↔ t ∈ l := by
  have := (foldl_put l [] List.Pairwise.nil).2 t
  simpa [sortU] using this
theorem sortU_snoc (l : List Bs) (t : Bs) : sortU (l ++ [t]) = put (sortU l) t := by simp [sortU]
theorem put_length (d : List Bs) (t : Bs) : (put d t).length ≤ d.length + 1 := by
  induction d with
  | nil => simp [put]
  | cons x d ih =>
    unfold put
    split
    · simp only [List.length_cons]; omega
    · split <;> simp
theorem sortU_length (l : List Bs) : (sortU l).length ≤ l.length := by
  have : ∀ (l d : List Bs), (l.foldl put d).length ≤ d.length + l.length := by
    intro l
    induction l with
    | nil => intro d; simp
    | cons x l ih =>
      intro d
      have := ih (put d x)
      have := put_length d x
      simp only [List.foldl_cons, List.length_cons]
      omega
  simpa [sortU] using this l []

/-- Of runs of the same ones the first. -/
def compact : List Bs → List Bs
  | [] => []
  | [x] => [x]
  | x :: y :: r => if x = y then compact (y :: r) else x :: compact (y :: r)
theorem mem_compact {t : Bs} : ∀ {l : List Bs}, t ∈ compact l ↔ t ∈ l
  | [] => by simp [compact]
  | [x] => by simp [compact]
  | x :: y :: r => by
    unfold compact
    split
    · rename_i h
      subst h
      rw [mem_compact]
      simp
    · rw [List.mem_cons, mem_compact]
      simp
theorem rises_compact : ∀ {l : List Bs}, l.Pairwise (fun a b => lb b a = false) → Rises (compact l)
  | [], _ => by simp [compact, Rises]
  | [x], _ => by simp [compact, Rises]
  | x :: y :: r, h => by
    have h' := List.pairwise_cons.1 h
    unfold compact
    split
    · exact rises_compact h'.2
    · rename_i hne
      refine List.pairwise_cons.2 ⟨fun s hs => ?_, rises_compact h'.2⟩
      have hxy := h'.1 y (by simp)
      have hlt : lb x y = true := by
        rcases lb_tri x y with e | e | e
        · exact e
        · exact absurd e hne
        · rw [e] at hxy; cases hxy
      have hs' := mem_compact.1 hs
      rcases List.mem_cons.1 hs' with e | e
      · subst e; exact hlt
      · have hys := (List.pairwise_cons.1 h'.2).1 s e
        rcases lb_tri y s with e1 | e1 | e1
        · exact lb_trans hlt e1
        · subst e1; exact hlt
        · rw [e1] at hys; cases hys
/-- What the program makes of a list that it has sorted. -/
theorem compact_sorted {l s : List Bs} (hs : s.Pairwise (fun a b => lb b a = false)) (hp : ∀ t, t ∈ s ↔ t ∈ l) : compact s = sortU l :=
  rises_ext (rises_compact hs) (rises_sortU l) fun t => by rw [mem_compact, mem_sortU, hp]

/-- One more at the end of a list that has no two alike side by side. -/
theorem compact_snoc (l : List Bs) (x : Bs) : ∀ y, compact (l ++ [y, x]) = if y = x then compact (l ++ [y]) else compact (l ++ [y]) ++ [x] := by
  induction l with
  | nil =>
    intro y
    by_cases h : y = x <;> simp [compact, h]
  | cons a l ih =>
    intro y
    cases l with
    | nil =>
      have := ih y
      simp only [List.nil_append] at this
      simp only [List.cons_append, List.nil_append]
      by_cases h1 : a = y
      · subst h1
        rw [show compact [a, a, x] = compact [a, x] by simp [compact], show compact [a, a] = compact [a] by simp [compact], this]
      · rw [show compact [a, y, x] = a :: compact [y, x] by rw [compact, if_neg h1], show compact [a, y] = a :: compact [y] by simp [compact, h1], this]
        split <;> simp
    | cons b r =>
      have := ih y
      simp only [List.cons_append] at this ⊢
      by_cases h1 : a = b
      · subst h1
        rw [show compact (a :: a :: (r ++ [y, x])) = compact (a :: (r ++ [y, x])) by rw [compact, if_pos rfl], show compact (a :: a :: (r ++ [y])) = compact (a :: (r ++ [y])) by rw [compact, if_pos rfl], this]
      · rw [show compact (a :: b :: (r ++ [y, x])) = a :: compact (b :: (r ++ [y, x])) by rw [compact, if_neg h1], show compact (a :: b :: (r ++ [y])) = a :: compact (b :: (r ++ [y])) by rw [compact, if_neg h1], this]
        split <;> simp

/-! ### Places -/
/-- How many of d are below t. -/
def rank (d : List Bs) (t : Bs) : Nat := d.countP fun x => lb x t
theorem rank_le (d : List Bs) (t : Bs) : rank d t ≤ d.length := List.countP_le_length
theorem rank_at : ∀ {d : List Bs}, Rises d → ∀ {k : Nat} (hk : k < d.length), rank d d[k] = k
  | [], _, _, hk => by simp at hk
  | x :: d, h, 0, _ => by
    have h' := List.pairwise_cons.1 h
    unfold rank
    rw [List.getElem_cons_zero, List.countP_eq_zero]
    intro s hs
    rcases List.mem_cons.1 hs with e | e
    · subst e; simp [lb_irrefl]
    · simp [lb_asymm (h'.1 s e)]
  | x :: d, h, k + 1, hk => by
    have h' := List.pairwise_cons.1 h
    have hk' : k < d.length := by simpa using hk
    have ih := rank_at h'.2 hk'
    unfold rank at ih ⊢
    rw [List.getElem_cons_succ, List.countP_cons_of_pos (p := fun x => lb x d[k]) (h'.1 _ (List.getElem_mem hk')), ih]
theorem rank_mem {d : List Bs} (h : Rises d) {t : Bs} (ht : t ∈ d) : ∃ hk : rank d t < d.length, d[rank d t] = t := by
  obtain ⟨k, hk, rfl⟩ := List.mem_iff_getElem.1 ht
  have := rank_at h hk
  refine ⟨by rw [this]; exact hk, ?_⟩
  simp only [this]
theorem rank_inj {d : List Bs} (h : Rises d) {s t : Bs} (hs : s ∈ d) (ht : t ∈ d) : rank d s = rank d t ↔ s = t := by
  obtain ⟨k1, e1⟩ := rank_mem h hs
  obtain ⟨k2, e2⟩ := rank_mem h ht
  constructor
  · intro e
    rw [← e1, ← e2]
    simp only [e]
  · intro e; rw [e]
theorem rank_lt {d : List Bs} (h : Rises d) {s t : Bs} (hs : s ∈ d) (ht : t ∈ d) : rank d s < rank d t ↔ lb s t = true := by
  obtain ⟨i, hi, rfl⟩ := List.mem_iff_getElem.1 hs
  obtain ⟨j, hj, rfl⟩ := List.mem_iff_getElem.1 ht
  rw [rank_at h hi, rank_at h hj]
  constructor
  · intro hij
    exact (List.pairwise_iff_getElem.1 h) i j hi hj hij
  · intro hl
    rcases Nat.lt_trichotomy i j with e | e | e
    · exact e
    · subst e; rw [lb_irrefl] at hl; cases hl
    · have := (List.pairwise_iff_getElem.1 h) j i hj hi e
      rw [lb_asymm this] at hl; cases hl

/-- What Find tells. -/
def fnd (d : List Bs) (t : Bs) : Nat × Bool := if t ∈ d then (rank d t, true) else (0, false)

end Go.Proofs.Ytjfiokcgmmmboaa
