/-
  Chapter 15, plain: rising lists, what is put into them, thresholds.
-/
import Derived.Test.YtnocjkpjihpphaaRuP
namespace Go.Proofs.Ytnocjkpjihpphaa

/-- How many are less than j. -/
def cntL (t : List Int) (j : Int) : Nat := (t.filter fun x => decide (x < j)).length
theorem cnt_nil (j : Int) : cntL [] j = 0 := rfl
theorem cnt_cons (x : Int) (t : List Int) (j : Int) : cntL (x :: t) j = (if x < j then 1 else 0) + cntL t j := by
  unfold cntL
  rw [List.filter_cons]
  by_cases h : x < j
  · simp [h]; omega
  · simp [h]
theorem cnt_app (t u : List Int) (j : Int) : cntL (t ++ u) j = cntL t j + cntL u j := by
  unfold cntL
  rw [List.filter_append, List.length_append]
theorem cnt_le (t : List Int) (j : Int) : cntL t j ≤ t.length := List.length_filter_le _ _
theorem cnt_mono (t : List Int) {i j : Int} (h : i ≤ j) : cntL t i ≤ cntL t j := by
  induction t with
  | nil => exact Nat.le_refl _
  | cons x t ih =>
    rw [cnt_cons, cnt_cons]
    by_cases h1 : x < i
    · rw [if_pos h1, if_pos (by omega)]; omega
    · rw [if_neg h1]; omega
theorem cnt_zero {t : List Int} {j : Int} (h : ∀ x ∈ t, j ≤ x) : cntL t j = 0 := by
  induction t with
  | nil => rfl
  | cons x t ih =>
    have := h x (by simp)
    rw [cnt_cons, if_neg (by omega), ih fun y hy => h y (by simp [hy])]
theorem cnt_full {t : List Int} {j : Int} (h : ∀ x ∈ t, x < j) : cntL t j = t.length := by
  induction t with
  | nil => rfl
  | cons x t ih =>
    rw [cnt_cons, if_pos (h x (by simp)), ih fun y hy => h y (by simp [hy]), List.length_cons]
    omega

/-- The list rises. -/
def Asc (t : List Int) : Prop := t.Pairwise (· < ·)
theorem asc_cons {x : Int} {t : List Int} : Asc (x :: t) ↔ (∀ y ∈ t, x < y) ∧ Asc t := List.pairwise_cons
/-- Up to number k - 1 it is less, from there on it is not. -/
theorem asc_at {t : List Int} (h : Asc t) (j : Int) : ∀ (k : Nat) (x : Int), t[k]? = some x → (x < j ↔ k < cntL t j) := by
  induction t with
  | nil => intro k x hk; simp at hk
  | cons y t ih =>
    intro k x hk
    obtain ⟨h1, h2⟩ := asc_cons.1 h
    rw [cnt_cons]
    by_cases hy : y < j
    · rw [if_pos hy]
      cases k with
      | zero => simp at hk; subst hk; constructor <;> intro _ <;> omega
      | succ k =>
        have := ih h2 k x (by simpa using hk)
        omega
    · rw [if_neg hy, cnt_zero (fun z hz => by have := h1 z hz; omega)]
      constructor
      · intro hx
        exfalso
        cases k with
        | zero => simp at hk; omega
        | succ k =>
          have := h1 x (List.mem_of_getElem? (by simpa using hk))
          omega
      · intro e; omega
/-- One step further at most one more is less. -/
theorem asc_step {t : List Int} (h : Asc t) (j : Int) : cntL t (j + 1) ≤ cntL t j + 1 := by
  induction t with
  | nil => simp [cnt_nil]
  | cons y t ih =>
    obtain ⟨h1, h2⟩ := asc_cons.1 h
    rw [cnt_cons, cnt_cons]
    have := ih h2
    by_cases e : y < j
    · rw [if_pos e, if_pos (by omega)]; omega
    · rw [if_neg e]
      by_cases e' : y < j + 1
      · rw [if_pos e', cnt_zero (j := j + 1) (fun z hz => by have := h1 z hz; omega)]
        omega
      · rw [if_neg e']; omega
/-- Rising lists are told apart by how many are less. -/
theorem asc_ext : ∀ {t u : List Int}, Asc t → Asc u → (∀ j, cntL t j = cntL u j) → t = u
  | [], [], _, _, _ => rfl
  | [], y :: u, _, _, h => by
    have := h (y + 1)
    rw [cnt_cons, if_pos (by omega), cnt_nil] at this
    omega
  | x :: t, [], _, _, h => by
    have := h (x + 1)
    rw [cnt_cons, if_pos (by omega), cnt_nil] at this
    omega
  | x :: t, y :: u, h1, h2, h => by
    obtain ⟨a1, a2⟩ := asc_cons.1 h1
    obtain ⟨b1, b2⟩ := asc_cons.1 h2
    have e : x = y := by
      rcases Int.lt_trichotomy x y with g | g | g
      · have := h (x + 1)
        rw [cnt_cons, if_pos (by omega), cnt_cons, if_neg (by omega), cnt_zero (t := u) (fun z hz => by have := b1 z hz; omega)] at this
        omega
      · exact g
      · have := h (y + 1)
        rw [cnt_cons, if_neg (by omega), cnt_cons, if_pos (by omega), cnt_zero (t := t) (fun z hz => by have := a1 z hz; omega)] at this
        omega
    subst e
    rw [asc_ext a2 b2 fun j => by have := h j; rw [cnt_cons, cnt_cons] at this; omega]

/-- What Put tells. -/
def putT (t : List Int) (j : Int) : List Int := if cntL t j = t.length then t ++ [j] else t.set (cntL t j) j
/-- The same, by recursion. -/
theorem put_cons {x : Int} {t : List Int} (h : Asc (x :: t)) (j : Int) : putT (x :: t) j = if x < j then x :: putT t j else j :: t := by
  obtain ⟨h1, h2⟩ := asc_cons.1 h
  unfold putT
  rw [cnt_cons]
  by_cases e : x < j
  · rw [if_pos e, if_pos e]
    by_cases g : cntL t j = t.length
    · rw [if_pos (by rw [List.length_cons]; omega), if_pos g]
      rfl
    · rw [if_neg (by rw [List.length_cons]; omega), if_neg g, show 1 + cntL t j = cntL t j + 1 by omega]
      rfl
  · rw [if_neg e, if_neg e, cnt_zero (fun z hz => by have := h1 z hz; omega), if_neg (by simp)]
    rfl
theorem put_nil (j : Int) : putT [] j = [j] := rfl
theorem mem_put {t : List Int} (h : Asc t) {j y : Int} (hy : y ∈ putT t j) : y = j ∨ y ∈ t := by
  induction t with
  | nil => rw [put_nil] at hy; simpa using hy
  | cons x t ih =>
    rw [put_cons h] at hy
    obtain ⟨h1, h2⟩ := asc_cons.1 h
    split at hy
    · rcases List.mem_cons.1 hy with rfl | hy
      · right; simp
      · rcases ih h2 hy with rfl | g
        · left; rfl
        · right; simp [g]
    · rcases List.mem_cons.1 hy with rfl | hy
      · left; rfl
      · right; simp [hy]
theorem asc_put {t : List Int} (h : Asc t) (j : Int) : Asc (putT t j) := by
  induction t with
  | nil => rw [put_nil]; exact List.pairwise_singleton _ _
  | cons x t ih =>
    rw [put_cons h]
    obtain ⟨h1, h2⟩ := asc_cons.1 h
    by_cases e : x < j
    · rw [if_pos e]
      refine asc_cons.2 ⟨fun y hy => ?_, ih h2⟩
      rcases mem_put h2 hy with rfl | g
      · exact e
      · exact h1 y g
    · rw [if_neg e]
      exact asc_cons.2 ⟨fun y hy => by have := h1 y hy; omega, h2⟩
/-- How many are less behind that. -/
theorem cnt_put {t : List Int} (h : Asc t) (s j : Int) : cntL (putT t s) j = if j ≤ s then cntL t j else max (cntL t s + 1) (cntL t j) := by
  induction t with
  | nil =>
    rw [put_nil, cnt_cons]
    simp only [cnt_nil]
    by_cases e : j ≤ s
    · rw [if_neg (by omega), if_pos e]
    · rw [if_pos (by omega), if_neg e]
      omega
  | cons x t ih =>
    rw [put_cons h]
    obtain ⟨h1, h2⟩ := asc_cons.1 h
    have ih := ih h2
    by_cases e : x < s
    · rw [if_pos e, cnt_cons, ih, cnt_cons, cnt_cons, if_pos e]
      by_cases g : j ≤ s
      · rw [if_pos g, if_pos g]
      · rw [if_neg g, if_neg g, if_pos (by omega)]
        omega
    · rw [if_neg e, cnt_cons, cnt_cons, cnt_cons, if_neg e, cnt_zero (t := t) (j := s) (fun z hz => by have := h1 z hz; omega)]
      by_cases g : j ≤ s
      · rw [if_pos g, if_neg (by omega), if_neg (by omega)]
      · rw [if_neg g, if_pos (by omega)]
        by_cases g2 : x < j
        · rw [if_pos g2]; omega
        · rw [if_neg g2, cnt_zero (t := t) (j := j) (fun z hz => by have := h1 z hz; omega)]
          omega
theorem put_length (t : List Int) (j : Int) : t.length ≤ (putT t j).length ∧ (putT t j).length ≤ t.length + 1 := by
  unfold putT
  split
  · rw [List.length_append]; simp
  · rw [List.length_set]; omega
/-- Put again it turns nothing. -/
theorem put_again {t : List Int} (h : Asc t) (j : Int) : putT (putT t j) j = putT t j ∧ cntL (putT t j) j = cntL t j := by
  have e : cntL (putT t j) j = cntL t j := by rw [cnt_put h, if_pos (Int.le_refl _)]
  refine ⟨asc_ext (asc_put (asc_put h j) j) (asc_put h j) fun i => ?_, e⟩
  rw [cnt_put (asc_put h j), e, cnt_put h]
  by_cases g : i ≤ j
  · rw [if_pos g, if_pos g]
  · rw [if_neg g, if_neg g]
    omega

/-- What Row tells. -/
def rowTh (t js : List Int) : List Int := js.foldr (fun j t => putT t j) t
theorem asc_row {t : List Int} (h : Asc t) (js : List Int) : Asc (rowTh t js) := by
  induction js with
  | nil => exact h
  | cons j js ih => exact asc_put ih j
/-- Nothing turns ahead of the first place. -/
theorem row_front {t : List Int} (h : Asc t) {js : List Int} {j : Int} (hj : ∀ s ∈ js, j ≤ s) : cntL (rowTh t js) j = cntL t j := by
  induction js with
  | nil => rfl
  | cons s js ih =>
    show cntL (putT (rowTh t js) s) j = _
    rw [cnt_put (asc_row h js), if_pos (hj s (by simp)), ih fun s hs => hj s (by simp [hs])]
/-- Place by place. -/
theorem row_step {t : List Int} (h : Asc t) : ∀ {js : List Int}, Asc js → ∀ j, cntL (rowTh t js) (j + 1) = if j ∈ js then cntL t j + 1 else max (cntL t (j + 1)) (cntL (rowTh t js) j)
  | [], _, j => by
    have := cnt_mono t (show j ≤ j + 1 by omega)
    rw [if_neg (by simp)]
    show cntL t (j + 1) = max (cntL t (j + 1)) (cntL t j)
    omega
  | s :: js, hs, j => by
    obtain ⟨h1, h2⟩ := asc_cons.1 hs
    have ih := row_step h h2 j
    have hT := asc_row h js
    show cntL (putT (rowTh t js) s) (j + 1) = if j ∈ s :: js then _ else max _ (cntL (putT (rowTh t js) s) j)
    rw [cnt_put hT, cnt_put hT, row_front h (j := s) (fun z hz => by have := h1 z hz; omega), ih]
    rcases Int.lt_trichotomy j s with g | g | g
    · rw [if_pos (show j + 1 ≤ s by omega), if_pos (show j ≤ s by omega)]
      have hn : j ∉ js := fun hm => by have := h1 j hm; omega
      rw [if_neg hn, if_neg (by simp only [List.mem_cons, not_or]; exact ⟨by omega, hn⟩)]
    · subst g
      have hn : j ∉ js := fun hm => by have := h1 j hm; omega
      have e1 := asc_step h j
      rw [if_neg (by omega), if_neg hn, if_pos (by simp), row_front h (j := j) (fun z hz => by have := h1 z hz; omega)]
      omega
    · rw [if_neg (show ¬ j + 1 ≤ s by omega), if_neg (show ¬ j ≤ s by omega)]
      have e1 := cnt_mono t (show s ≤ j by omega)
      by_cases hm : j ∈ js
      · rw [if_pos hm, if_pos (by simp [hm])]
        omega
      · rw [if_neg hm, if_neg (by simp only [List.mem_cons, not_or]; exact ⟨by omega, hm⟩)]
        omega

/-- Where a row goes up. -/
def thrL (F : Nat → Nat) (m : Nat) : List Int := ((List.range m).filter fun j => decide (F j < F (j + 1))).map fun (j : Nat) => (j : Int)
theorem thr_succ (F : Nat → Nat) (m : Nat) : thrL F (m + 1) = thrL F m ++ if F m < F (m + 1) then [(m : Int)] else [] := by
  unfold thrL
  rw [List.range_succ, List.filter_append, List.map_append]
  congr 1
  by_cases h : F m < F (m + 1)
  · simp [h]
  · simp [h]
theorem thr_lt {F : Nat → Nat} {m : Nat} {x : Int} (h : x ∈ thrL F m) : 0 ≤ x ∧ x < (m : Int) := by
  unfold thrL at h
  obtain ⟨j, hj, rfl⟩ := List.mem_map.1 h
  have := List.mem_range.1 (List.mem_filter.1 hj).1
  omega
theorem asc_thr (F : Nat → Nat) : ∀ m, Asc (thrL F m)
  | 0 => List.Pairwise.nil
  | m + 1 => by
    rw [thr_succ]
    refine List.pairwise_append.2 ⟨asc_thr F m, ?_, fun x hx y hy => ?_⟩
    · split
      · exact List.pairwise_singleton _ _
      · exact List.Pairwise.nil
    · split at hy
      · simp at hy
        subst hy
        exact (thr_lt hx).2
      · simp at hy
/-- So many go up as the row does. -/
theorem cnt_thr {F : Nat → Nat} (h0 : F 0 = 0) (h : ∀ j, F j ≤ F (j + 1) ∧ F (j + 1) ≤ F j + 1) : ∀ m j, j ≤ m → cntL (thrL F m) (j : Int) = F j
  | 0, j, hj => by
    obtain rfl : j = 0 := by omega
    rw [h0]
    rfl
  | m + 1, j, hj => by
    rw [thr_succ, cnt_app]
    have hm := h m
    by_cases e : j = m + 1
    · subst e
      rw [cnt_full (fun x hx => by have := (thr_lt hx).2; omega), ← cnt_full (t := thrL F m) (j := (m : Int)) (fun x hx => (thr_lt hx).2), cnt_thr h0 h m m (Nat.le_refl _)]
      split
      · rw [cnt_cons, if_pos (by omega), cnt_nil]; omega
      · rw [cnt_nil]; omega
    · rw [cnt_thr h0 h m j (by omega)]
      split
      · rw [cnt_cons, if_neg (by omega), cnt_nil]; omega
      · rw [cnt_nil]; omega
theorem thr_length {F : Nat → Nat} (h0 : F 0 = 0) (h : ∀ j, F j ≤ F (j + 1) ∧ F (j + 1) ≤ F j + 1) (m : Nat) : (thrL F m).length = F m := by
  rw [← cnt_full (t := thrL F m) (j := (m : Int)) (fun x hx => (thr_lt hx).2), cnt_thr h0 h m m (Nat.le_refl _)]
/-- A number's places. -/
def plcR (x : Int) (b : List Int) : List Int := ((List.range b.length).filter fun j => decide (b[j]? = some x)).map fun (j : Nat) => (j : Int)
theorem mem_plcR {x : Int} {b : List Int} {j : Nat} : (j : Int) ∈ plcR x b ↔ b[j]? = some x := by
  unfold plcR
  rw [List.mem_map]
  constructor
  · rintro ⟨k, hk, e⟩
    obtain rfl : k = j := by omega
    simpa using (List.mem_filter.1 hk).2
  · intro h
    exact ⟨j, List.mem_filter.2 ⟨List.mem_range.2 (List.getElem?_eq_some_iff.1 h).1, by simpa using h⟩, rfl⟩
theorem asc_map_range (p : Nat → Bool) (m : Nat) : Asc (((List.range m).filter p).map fun (j : Nat) => (j : Int)) := by
  refine List.Pairwise.map (R := (· < ·)) _ (fun a b h => by omega) ?_
  exact List.Pairwise.filter _ List.pairwise_lt_range
/-- P15.2. -/
theorem thr_next (a b : List Int) (r : Nat) {x : Int} (hx : a[r]? = some x) : rowTh (thrL (px a b r) b.length) (plcR x b) = thrL (px a b (r + 1)) b.length := by
  have hF : ∀ r j, px a b r j ≤ px a b r (j + 1) ∧ px a b r (j + 1) ≤ px a b r j + 1 := fun r j => px_h a b r j
  have h1 := asc_thr (px a b r) b.length
  have h2 := asc_thr (px a b (r + 1)) b.length
  have h3 : Asc (plcR x b) := asc_map_range _ _
  have e0 : ∀ (t : List Int), (∀ y ∈ t, 0 ≤ y) → ∀ j : Int, j ≤ 0 → cntL t j = 0 := fun t ht j hj => cnt_zero fun y hy => by have := ht y hy; omega
  have n1 : ∀ y ∈ rowTh (thrL (px a b r) b.length) (plcR x b), 0 ≤ y ∧ y < (b.length : Int) := by
    have : ∀ js : List Int, (∀ s ∈ js, 0 ≤ s ∧ s < (b.length : Int)) → ∀ y ∈ rowTh (thrL (px a b r) b.length) js, 0 ≤ y ∧ y < (b.length : Int) := by
      intro js
      induction js with
      | nil => exact fun _ y hy => thr_lt hy
      | cons s js ih =>
        intro hs y hy
        rcases mem_put (asc_row h1 js) hy with rfl | g
        · exact hs _ (by simp)
        · exact ih (fun s h => hs s (by simp [h])) y g
    refine this _ fun s hs => ?_
    unfold plcR at hs
    obtain ⟨k, hk, rfl⟩ := List.mem_map.1 hs
    have := List.mem_range.1 (List.mem_filter.1 hk).1
    omega
  have key : ∀ j : Nat, j ≤ b.length → cntL (rowTh (thrL (px a b r) b.length) (plcR x b)) (j : Int) = px a b (r + 1) j := by
    intro j
    induction j with
    | zero => intro _; rw [px_zero_right]; exact e0 _ (fun y hy => (n1 y hy).1) _ (Int.le_refl _)
    | succ j ih =>
      intro hj
      have hlt : j < b.length := hj
      rw [Int.natCast_succ, row_step h1 h3, ih (by omega), cnt_thr (px_zero_right a b r) (hF r) _ _ (by omega), ← Int.natCast_succ, cnt_thr (px_zero_right a b r) (hF r) _ _ hj]
      have hb : b[j]? = some b[j] := List.getElem?_eq_getElem hlt
      by_cases e : b[j] = x
      · rw [if_pos (mem_plcR.2 (by rw [hb, e])), px_same hx (by rw [hb, e])]
      · rw [if_neg (fun h => e (by have := mem_plcR.1 h; rw [hb] at this; injection this)), px_other hx hb (fun h => e h.symm)]
  refine asc_ext (asc_row h1 _) h2 fun j => ?_
  rcases Int.lt_or_le j 0 with g | g
  · rw [e0 _ (fun y hy => (n1 y hy).1) j (by omega), e0 _ (fun y hy => (thr_lt hy).1) j (by omega)]
  · obtain ⟨k, rfl⟩ := Int.eq_ofNat_of_zero_le g
    by_cases hk : k ≤ b.length
    · rw [key k hk, cnt_thr (px_zero_right a b (r + 1)) (hF (r + 1)) _ _ hk]
    · rw [cnt_full (fun y hy => by have := (n1 y hy).2; omega), cnt_full (fun y hy => by have := (thr_lt hy).2; omega), thr_length (px_zero_right a b (r + 1)) (hF (r + 1)),
        ← key b.length (Nat.le_refl _), cnt_full (fun y hy => (n1 y hy).2)]

end Go.Proofs.Ytnocjkpjihpphaa
