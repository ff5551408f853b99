/-
  Lists of pairs, plain: which one comes first, exchanged, moved, what stands at their places.
-/
import Derived.Test.YtkiijldiofbflaaGd
namespace Go.Proofs.Ytkiijldiofbflaa

/-- x comes ahead of y. -/
def lessB : List Pr → List Pr → Bool
  | [], [] => false
  | [], _ :: _ => true
  | _ :: _, [] => false
  | p :: x, q :: y => if p.1 = q.1 then (if p.2 = q.2 then lessB x y else decide (p.2 < q.2)) else decide (p.1 < q.1)
theorem lessB_nil (y : List Pr) : lessB [] y = decide (0 < y.length) := by cases y <;> rfl
theorem lessB_nil' (x : List Pr) : lessB x [] = false := by cases x <;> rfl
theorem lessB_self : ∀ x : List Pr, lessB x x = false
  | [] => rfl
  | p :: x => by rw [lessB, if_pos rfl, if_pos rfl, lessB_self x]
theorem lessB_cons {p q : Pr} {x y : List Pr} : lessB (p :: x) (q :: y) = true ↔ p.1 < q.1 ∨ (p.1 = q.1 ∧ (p.2 < q.2 ∨ (p.2 = q.2 ∧ lessB x y = true))) := by
  rw [lessB]
  by_cases h1 : p.1 = q.1
  · rw [if_pos h1]
    by_cases h2 : p.2 = q.2
    · rw [if_pos h2]
      constructor
      · exact fun h => .inr ⟨h1, .inr ⟨h2, h⟩⟩
      · rintro (h | ⟨_, h | ⟨_, h⟩⟩)
        · omega
        · omega
        · exact h
    · rw [if_neg h2]
      simp only [decide_eq_true_eq]
      constructor
      · exact fun h => .inr ⟨h1, .inl h⟩
      · rintro (h | ⟨_, h | ⟨h, _⟩⟩)
        · omega
        · exact h
        · exact absurd h h2
  · rw [if_neg h1]
    simp only [decide_eq_true_eq]
    constructor
    · exact fun h => .inl h
    · rintro (h | ⟨h, _⟩)
      · exact h
      · exact absurd h h1
theorem lessB_trans : ∀ {x y z : List Pr}, lessB x y = true → lessB y z = true → lessB x z = true
  | [], y, [], h1, h2 => by rw [lessB_nil'] at h2; cases h2
  | [], y, r :: z, h1, h2 => rfl
  | p :: x, [], z, h1, h2 => by cases h1
  | p :: x, q :: y, [], h1, h2 => by cases h2
  | p :: x, q :: y, r :: z, h1, h2 => by
    rw [lessB_cons] at *
    rcases h1 with h1 | ⟨h1, h1' | ⟨h1', h1''⟩⟩ <;> rcases h2 with h2 | ⟨h2, h2' | ⟨h2', h2''⟩⟩
    · left; omega
    · left; omega
    · left; omega
    · left; omega
    · right; exact ⟨by omega, .inl (by omega)⟩
    · right; exact ⟨by omega, .inl (by omega)⟩
    · left; omega
    · right; exact ⟨by omega, .inl (by omega)⟩
    · right; exact ⟨by omega, .inr ⟨by omega, lessB_trans h1'' h2''⟩⟩
theorem lessB_asymm {x y : List Pr} (h : lessB x y = true) : lessB y x = false := by
  cases h' : lessB y x with
  | false => rfl
  | true => have := lessB_trans h h'; rw [lessB_self] at this; cases this
theorem lessB_total : ∀ {x y : List Pr}, lessB x y = false → lessB y x = false → x = y
  | [], [], _, _ => rfl
  | [], _ :: _, h, _ => by cases h
  | _ :: _, [], _, h => by cases h
  | p :: x, q :: y, h1, h2 => by
    have g1 : ¬ (p.1 < q.1 ∨ (p.1 = q.1 ∧ (p.2 < q.2 ∨ (p.2 = q.2 ∧ lessB x y = true)))) := by rw [← lessB_cons, h1]; simp
    have g2 : ¬ (q.1 < p.1 ∨ (q.1 = p.1 ∧ (q.2 < p.2 ∨ (q.2 = p.2 ∧ lessB y x = true)))) := by rw [← lessB_cons, h2]; simp
    have e1 : p.1 = q.1 := by
      have := fun h => g1 (.inl h)
      have := fun h => g2 (.inl h)
      omega
    have e2 : p.2 = q.2 := by
      have := fun h => g1 (.inr ⟨e1, .inl h⟩)
      have := fun h => g2 (.inr ⟨e1.symm, .inl h⟩)
      omega
    have e3 : lessB x y = false := by
      cases h : lessB x y with
      | false => rfl
      | true => exact absurd (.inr ⟨e1, .inr ⟨e2, h⟩⟩) g1
    have e4 : lessB y x = false := by
      cases h : lessB y x with
      | false => rfl
      | true => exact absurd (.inr ⟨e1.symm, .inr ⟨e2.symm, h⟩⟩) g2
    rw [lessB_total e3 e4]
    obtain ⟨p1, p2⟩ := p
    obtain ⟨q1, q2⟩ := q
    simp only at e1 e2
    rw [e1, e2]
/-- Of two just one comes first, or they are the same. -/
theorem lessB_one (x y : List Pr) : (lessB x y = true ∧ lessB y x = false ∧ decide (x = y) = false) ∨ (lessB x y = false ∧ lessB y x = true ∧ decide (x = y) = false) ∨ (lessB x y = false ∧ lessB y x = false ∧ decide (x = y) = true) := by
  cases h1 : lessB x y with
  | true =>
    left
    refine ⟨rfl, lessB_asymm h1, decide_eq_false fun e => ?_⟩
    rw [e, lessB_self] at h1
    cases h1
  | false =>
    right
    cases h2 : lessB y x with
    | true =>
      left
      refine ⟨rfl, rfl, decide_eq_false fun e => ?_⟩
      rw [e, lessB_self] at h2
      cases h2
    | false => exact .inr ⟨rfl, rfl, decide_eq_true (lessB_total h1 h2)⟩
/-! Step by step. -/
theorem less_step {x y : List Pr} {k : Nat} {p q : Pr} (h : x[k]? = some p) (h' : y[k]? = some q) : lessB (x.drop k) (y.drop k) = if p.1 = q.1 then (if p.2 = q.2 then lessB (x.drop (k + 1)) (y.drop (k + 1)) else decide (p.2 < q.2)) else decide (p.1 < q.1) := by
  obtain ⟨hk, e⟩ := List.getElem?_eq_some_iff.1 h
  obtain ⟨hk', e'⟩ := List.getElem?_eq_some_iff.1 h'
  rw [List.drop_eq_getElem_cons hk, List.drop_eq_getElem_cons hk', e, e', lessB]
theorem less_end {x y : List Pr} {k : Nat} (h : ¬ (k < x.length ∧ k < y.length)) (h1 : k ≤ x.length) (h2 : k ≤ y.length) : lessB (x.drop k) (y.drop k) = decide (x.length < y.length) := by
  rcases Nat.lt_or_ge k x.length with g | g
  · have g' : y.length ≤ k := by omega
    rw [List.drop_eq_nil_of_le g', lessB_nil', decide_eq_false (by omega)]
  · rw [List.drop_eq_nil_of_le g, lessB_nil, List.length_drop, decide_eq_decide]
    omega

/-- Exchanged; moved; what stands there. -/
def turnP (l : List Pr) : List Pr := l.map fun p => (p.2, p.1)
def movP (i j : Int) (p : Pr) : Pr := (RowKit.wrap64 (p.1 + i), RowKit.wrap64 (p.2 + j))
def moveP (l : List Pr) (i j : Int) : List Pr := l.map (movP i j)
def valAt (a : List Int) (p : Pr) : List Int := if 0 ≤ p.1 ∧ p.1 < (a.length : Int) then a[p.1.toNat]?.toList else []
def valsOf (a : List Int) (l : List Pr) : List Int := l.flatMap (valAt a)
theorem turnP_length (l : List Pr) : (turnP l).length = l.length := by simp [turnP]
theorem moveP_length (l : List Pr) (i j : Int) : (moveP l i j).length = l.length := by simp [moveP]
theorem turnP_turnP : ∀ l : List Pr, turnP (turnP l) = l
  | [] => rfl
  | p :: l => congrArg (p :: ·) (turnP_turnP l)
theorem turn_move (l : List Pr) (i j : Int) : turnP (moveP l i j) = moveP (turnP l) j i := by simp [turnP, moveP, movP]
theorem turn_step {l : List Pr} {k : Nat} {p : Pr} (h : l[k]? = some p) : turnP (l.take (k + 1)) = turnP (l.take k) ++ [(p.2, p.1)] := by
  obtain ⟨hk, e⟩ := List.getElem?_eq_some_iff.1 h
  rw [List.take_succ_eq_append_getElem hk, e]
  simp [turnP]
theorem move_step {l : List Pr} {k : Nat} {p : Pr} {i j : Int} (h : l[k]? = some p) : moveP (l.take (k + 1)) i j = moveP (l.take k) i j ++ [movP i j p] := by
  obtain ⟨hk, e⟩ := List.getElem?_eq_some_iff.1 h
  rw [List.take_succ_eq_append_getElem hk, e]
  simp [moveP]
theorem vals_step {a : List Int} {l : List Pr} {k : Nat} {p : Pr} (h : l[k]? = some p) : valsOf a (l.take (k + 1)) = valsOf a (l.take k) ++ valAt a p := by
  obtain ⟨hk, e⟩ := List.getElem?_eq_some_iff.1 h
  rw [List.take_succ_eq_append_getElem hk, e]
  simp [valsOf]
theorem valAt_in {a : List Int} {x : Nat} {y u : Int} (h : a[x]? = some u) : valAt a ((x : Int), y) = [u] := by
  have := (List.getElem?_eq_some_iff.1 h).1
  unfold valAt
  rw [if_pos ⟨by simp, by simp; omega⟩]
  simp [h]
theorem valAt_out {a : List Int} {x y : Int} (h : ¬ (0 ≤ x ∧ x < (a.length : Int))) : valAt a (x, y) = [] := by
  unfold valAt
  rw [if_neg h]
theorem valAt_le (a : List Int) (p : Pr) : (valAt a p).length ≤ 1 := by
  unfold valAt
  split
  · cases a[p.1.toNat]? <;> simp
  · simp
theorem vals_le (a : List Int) : ∀ l : List Pr, (valsOf a l).length ≤ l.length
  | [] => by simp [valsOf]
  | p :: l => by
    have h1 := vals_le a l
    have h2 := valAt_le a p
    unfold valsOf at *
    rw [List.flatMap_cons, List.length_append, List.length_cons]
    omega

/-! Good ones. -/
theorem okP_out {a b : List Int} {c : Pr} (h : okP a b c = true) : ∃ (x y : Nat) (u : Int), c = ((x : Int), (y : Int)) ∧ a[x]? = some u ∧ b[y]? = some u := by
  obtain ⟨c1, c2⟩ := c
  have h' : 0 ≤ c1 ∧ c1 < (a.length : Int) ∧ 0 ≤ c2 ∧ c2 < (b.length : Int) ∧ a[c1.toNat]? = b[c2.toNat]? := by simpa [okP] using h
  obtain ⟨h1, h2, h3, h4, h5⟩ := h'
  obtain ⟨x, rfl⟩ := Int.eq_ofNat_of_zero_le h1
  obtain ⟨y, rfl⟩ := Int.eq_ofNat_of_zero_le h3
  simp only [Int.toNat_natCast] at h5
  have hx : x < a.length := by omega
  refine ⟨x, y, a[x], rfl, List.getElem?_eq_getElem hx, ?_⟩
  rw [← h5]
  exact List.getElem?_eq_getElem hx
theorem okP_swap (a b : List Int) (p : Pr) : okP b a (p.2, p.1) = okP a b p := by
  unfold okP
  rw [decide_eq_decide]
  constructor
  · rintro ⟨h1, h2, h3, h4, h5⟩
    exact ⟨h3, h4, h1, h2, h5.symm⟩
  · rintro ⟨h1, h2, h3, h4, h5⟩
    exact ⟨h3, h4, h1, h2, h5.symm⟩
def swapO : Option Pr → Option Pr := Option.map fun p => (p.2, p.1)
theorem rises_swap (o : Option Pr) (p : Pr) : rises (swapO o) (p.2, p.1) = rises o p := by
  cases o with
  | none => rfl
  | some q => simp only [swapO, Option.map_some, rises]; rw [decide_eq_decide]; omega
theorem goodGo_turn (a b : List Int) : ∀ (o : Option Pr) (l : List Pr), goodGo b a (swapO o) (turnP l) = goodGo a b o l
  | _, [] => rfl
  | o, p :: l => by
    have h := goodGo_turn a b (some p) l
    show (okP b a (p.2, p.1) && rises (swapO o) (p.2, p.1) && goodGo b a (some (p.2, p.1)) (turnP l)) = (okP a b p && rises o p && goodGo a b (some p) l)
    rw [okP_swap, rises_swap, ← h]
    rfl
theorem good_turn (a b : List Int) (l : List Pr) : goodB b a (turnP l) = goodB a b l := goodGo_turn a b none l

/-- Moved, for lists with as much put ahead. -/
theorem goodGo_move {a b ra rb : List Int} {i j : Nat} (hi : ra.length = i) (hj : rb.length = j) (ha : a.length + i ≤ 1048576) (hb : b.length + j ≤ 1048576) : ∀ (o : Option Pr) (l : List Pr), (∀ q, o = some q → okP a b q = true) → goodGo a b o l = true → goodGo (ra ++ a) (rb ++ b) (o.map (movP i j)) (moveP l i j) = true
  | _, [], _, _ => rfl
  | o, p :: l, ho, h => by
    rw [goodGo, Bool.and_eq_true, Bool.and_eq_true] at h
    obtain ⟨⟨h1, h2⟩, h3⟩ := h
    have ih := goodGo_move hi hj ha hb (some p) l (fun q e => by cases e; exact h1) h3
    show (okP (ra ++ a) (rb ++ b) (movP i j p) && rises (o.map (movP i j)) (movP i j p) && goodGo (ra ++ a) (rb ++ b) (some (movP i j p)) (moveP l i j)) = true
    have mv : ∀ q, okP a b q = true → ∃ (x y : Nat) (u : Int), q = ((x : Int), (y : Int)) ∧ a[x]? = some u ∧ b[y]? = some u ∧ movP i j q = (((i + x : Nat) : Int), ((j + y : Nat) : Int)) := by
      intro q hq
      obtain ⟨x, y, u, rfl, hx, hy⟩ := okP_out hq
      have := (List.getElem?_eq_some_iff.1 hx).1
      have := (List.getElem?_eq_some_iff.1 hy).1
      refine ⟨x, y, u, rfl, hx, hy, ?_⟩
      unfold movP
      rw [IntWalk.wrap64_in _ (by simp only; omega), IntWalk.wrap64_in _ (by simp only; omega)]
      simp only [Prod.mk.injEq]
      omega
    obtain ⟨x, y, u, rfl, hx, hy, e⟩ := mv p h1
    have k1 : okP (ra ++ a) (rb ++ b) (movP i j ((x : Int), (y : Int))) = true := by
      rw [e]
      refine okP_yes (u := u) ?_ ?_
      · rw [List.getElem?_append_right (by omega), hi, Nat.add_sub_cancel_left]; exact hx
      · rw [List.getElem?_append_right (by omega), hj, Nat.add_sub_cancel_left]; exact hy
    have k2 : rises (o.map (movP i j)) (movP i j ((x : Int), (y : Int))) = true := by
      cases o with
      | none => rfl
      | some q =>
        obtain ⟨x', y', u', rfl, _, _, e'⟩ := mv q (ho q rfl)
        simp only [Option.map_some, rises, e, e'] at h2 ⊢
        simp only [decide_eq_true_eq] at h2 ⊢
        omega
    rw [k1, k2]
    exact ih
theorem good_move {a b ra rb : List Int} {i j : Nat} (hi : ra.length = i) (hj : rb.length = j) (ha : a.length + i ≤ 1048576) (hb : b.length + j ≤ 1048576) {l : List Pr} (h : goodB a b l = true) : goodB (ra ++ a) (rb ++ b) (moveP l i j) = true :=
  goodGo_move hi hj ha hb none l (fun _ e => by cases e) h

/-- What stands there, of good ones. -/
theorem goodGo_vals (a b : List Int) : ∀ (o : Option Pr) (l : List Pr), goodGo a b o l = true → valsOf a l = valsOf b (turnP l) ∧ (valsOf a l).length = l.length
  | _, [], _ => ⟨rfl, rfl⟩
  | o, p :: l, h => by
    rw [goodGo, Bool.and_eq_true, Bool.and_eq_true] at h
    obtain ⟨⟨h1, _⟩, h3⟩ := h
    obtain ⟨e1, e2⟩ := goodGo_vals a b (some p) l h3
    obtain ⟨x, y, u, rfl, hx, hy⟩ := okP_out h1
    have g1 : valsOf a (((x : Int), (y : Int)) :: l) = u :: valsOf a l := by
      show valAt a ((x : Int), (y : Int)) ++ valsOf a l = _
      rw [valAt_in hx]; rfl
    have g2 : valsOf b (turnP (((x : Int), (y : Int)) :: l)) = u :: valsOf b (turnP l) := by
      show valAt b ((y : Int), (x : Int)) ++ valsOf b (turnP l) = _
      rw [valAt_in hy]; rfl
    rw [g1, g2, e1]
    exact ⟨rfl, by rw [List.length_cons, List.length_cons, ← e1, e2]⟩
theorem goodGo_sub (a b : List Int) : ∀ (o : Option Pr) (l : List Pr) (n : Nat), goodGo a b o l = true → (∀ p ∈ l.head?, (n : Int) ≤ p.1) → (valsOf a l).Sublist (a.drop n)
  | _, [], _, _, _ => List.nil_sublist _
  | o, p :: l, n, h, hn => by
    rw [goodGo, Bool.and_eq_true, Bool.and_eq_true] at h
    obtain ⟨⟨h1, _⟩, h3⟩ := h
    obtain ⟨x, y, u, rfl, hx, hy⟩ := okP_out h1
    have hle : n ≤ x := by have := hn ((x : Int), (y : Int)) (by simp); simp only at this; omega
    have ih := goodGo_sub a b (some ((x : Int), (y : Int))) l (x + 1) h3 (by
      intro q hq
      cases l with
      | nil => simp at hq
      | cons r l =>
        simp at hq
        subst hq
        rw [goodGo, Bool.and_eq_true, Bool.and_eq_true] at h3
        have := h3.1.2
        simp only [rises, decide_eq_true_eq] at this
        omega)
    have g1 : valsOf a (((x : Int), (y : Int)) :: l) = u :: valsOf a l := by
      show valAt a ((x : Int), (y : Int)) ++ valsOf a l = _
      rw [valAt_in hx]; rfl
    rw [g1]
    have hxl := (List.getElem?_eq_some_iff.1 hx).1
    have hxe := (List.getElem?_eq_some_iff.1 hx).2
    have e : a.drop n = (a.drop n).take (x - n) ++ u :: a.drop (x + 1) := by
      have := (List.take_append_drop (x - n) (a.drop n)).symm
      rw [List.drop_drop, show n + (x - n) = x by omega, List.drop_eq_getElem_cons hxl, hxe] at this
      exact this
    rw [e]
    exact (ih.cons_cons u).trans (List.sublist_append_right _ _)
theorem goodGo_nonneg {a b : List Int} {o : Option Pr} {p : Pr} {l : List Pr} (h : goodGo a b o (p :: l) = true) : 0 ≤ p.1 ∧ 0 ≤ p.2 := by
  rw [goodGo, Bool.and_eq_true, Bool.and_eq_true] at h
  obtain ⟨x, y, u, rfl, _, _⟩ := okP_out h.1.1
  simp
theorem good_sub {a b : List Int} {l : List Pr} (h : goodB a b l = true) : (valsOf a l).Sublist a := by
  have := goodGo_sub a b none l 0 h (by
    intro p hp
    cases l with
    | nil => simp at hp
    | cons q l =>
      simp at hp
      subst hp
      exact (goodGo_nonneg h).1)
  simpa using this
theorem good_vals {a b : List Int} {l : List Pr} (h : goodB a b l = true) : valsOf a l = valsOf b (turnP l) ∧ (valsOf a l).length = l.length := goodGo_vals a b none l h
theorem good_sub' {a b : List Int} {l : List Pr} (h : goodB a b l = true) : (valsOf a l).Sublist b := by
  rw [(good_vals h).1]
  exact good_sub (a := b) (b := a) (by rw [good_turn]; exact h)

/-- The front pair of a walk that begins with (-1, -1). -/
def befP : Option Pr → Pr
  | none => (-1, -1)
  | some p => p
theorem ok_bef {a b : List Int} {o : Option Pr} {c : Pr} (h : -1 ≤ (befP o).1 ∧ -1 ≤ (befP o).2) : (okP a b c && rises o c) = decide ((befP o).1 < c.1 ∧ (befP o).2 < c.2 ∧ c.1 < (a.length : Int) ∧ c.2 < (b.length : Int) ∧ a[c.1.toNat]? = b[c.2.toNat]?) := by
  rw [Bool.eq_iff_iff, Bool.and_eq_true]
  unfold okP
  simp only [decide_eq_true_eq]
  cases o with
  | none =>
    show (_ ∧ true = true) ↔ ((-1 : Int) < _ ∧ (-1 : Int) < _ ∧ _)
    constructor
    · rintro ⟨⟨h1, h2, h3, h4, h5⟩, _⟩
      exact ⟨by omega, by omega, h2, h4, h5⟩
    · rintro ⟨h1, h2, h3, h4, h5⟩
      exact ⟨⟨by omega, h3, by omega, h4, h5⟩, rfl⟩
  | some p =>
    have e : rises (some p) c = true ↔ p.1 < c.1 ∧ p.2 < c.2 := by simp [rises]
    rw [e]
    have h : -1 ≤ p.1 ∧ -1 ≤ p.2 := h
    show _ ↔ (p.1 < _ ∧ p.2 < _ ∧ _)
    constructor
    · rintro ⟨⟨h1, h2, h3, h4, h5⟩, h6, h7⟩
      exact ⟨h6, h7, h2, h4, h5⟩
    · rintro ⟨h1, h2, h3, h4, h5⟩
      exact ⟨⟨by omega, h3, by omega, h4, h5⟩, h1, h2⟩

end Go.Proofs.Ytkiijldiofbflaa
