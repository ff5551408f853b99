/-
  Masks, plain: the words of a mask that are not zero, index by index; numbers of a list, each once, rising.
-/
import Derived.Test.YthmfolekohomiaaStep
namespace Go.Proofs.Ythmfolekohomiaa

/-- A word that is not zero, and its place. -/
abbrev Pt := Nat × Nat
/-- Word q of the mask that has these. -/
def fillP (ps : List Pt) (q : Nat) : Nat := ps.foldl (fun acc p => if q = p.1 then p.2 else acc) 0
theorem fillP_snoc (ps : List Pt) (p : Pt) (q : Nat) : fillP (ps ++ [p]) q = if q = p.1 then p.2 else fillP ps q := by simp [fillP, List.foldl_append]
theorem list_end {α : Type} (l : List α) : l = [] ∨ ∃ r x, l = r ++ [x] := by
  rcases List.eq_nil_or_concat l with h | ⟨r, x, h⟩
  · exact .inl h
  · exact .inr ⟨r, x, by rw [h, List.concat_eq_append]⟩
theorem fillP_out {q : Nat} : ∀ (n : Nat) (ps : List Pt), ps.length = n → (∀ p ∈ ps, p.1 ≠ q) → fillP ps q = 0
  | 0, ps, h, _ => by rw [List.eq_nil_of_length_eq_zero h]; rfl
  | n + 1, ps, h, ho => by
    rcases list_end ps with rfl | ⟨r, x, rfl⟩
    · rfl
    · rw [fillP_snoc, if_neg (fun e => ho x (by simp) e.symm)]
      exact fillP_out n r (by simpa using h) (fun p hp => ho p (by simp [hp]))
theorem fillP_lt {q : Nat} : ∀ (n : Nat) (ps : List Pt), ps.length = n → (∀ p ∈ ps, p.2 < 18446744073709551616) → fillP ps q < 18446744073709551616
  | 0, ps, h, _ => by rw [List.eq_nil_of_length_eq_zero h]; exact (by decide : 0 < 18446744073709551616)
  | n + 1, ps, h, ho => by
    rcases list_end ps with rfl | ⟨r, x, rfl⟩
    · exact (by decide : 0 < 18446744073709551616)
    · rw [fillP_snoc]
      split
      · exact ho x (by simp)
      · exact fillP_lt n r (by simpa using h) (fun p hp => ho p (by simp [hp]))

/-- The words that are not zero of the bits g below J. -/
structure Parts (ps : List Pt) (J : Nat) (g : Nat → Bool) : Prop where
  up : ps.Pairwise (fun p q => p.1 < q.1)
  lo : ∀ p ∈ ps, p.1 * 64 < J
  wd : ∀ p ∈ ps, p.2 < 18446744073709551616
  bits : ∀ j, (fillP ps (j / 64)).testBit (j % 64) = (decide (j < J) && g j)
  len : ps.length ≤ J

theorem Parts.none (g : Nat → Bool) : Parts [] 0 g := ⟨List.Pairwise.nil, by simp, by simp, fun j => by simp [fillP], Nat.le_refl _⟩
theorem Parts.skip {ps : List Pt} {J : Nat} {g : Nat → Bool} (h : Parts ps J g) (hg : g J = false) : Parts ps (J + 1) g := by
  refine ⟨h.up, fun p hp => Nat.lt_succ_of_lt (h.lo p hp), h.wd, fun j => ?_, Nat.le_succ_of_le h.len⟩
  rw [h.bits j]
  by_cases e : j = J
  · subst e
    simp [hg]
  · congr 1
    simp only [decide_eq_decide]
    omega
theorem pow_lt64 (J : Nat) : 2 ^ (J % 64) < 18446744073709551616 := show 2 ^ (J % 64) < 2 ^ 64 from Nat.pow_lt_pow_right (by decide) (Nat.mod_lt _ (by decide))
theorem Parts.same {qs : List Pt} {u J : Nat} {g : Nat → Bool} (h : Parts (qs ++ [(J / 64, u)]) J g) (hg : g J = true) : Parts (qs ++ [(J / 64, u ||| 2 ^ (J % 64))]) (J + 1) g := by
  have hu : u < 18446744073709551616 := h.wd (J / 64, u) (by simp)
  refine ⟨?_, fun p hp => ?_, fun p hp => ?_, fun j => ?_, by have := h.len; simp at this ⊢; omega⟩
  · have := h.up
    rw [List.pairwise_append] at this ⊢
    exact ⟨this.1, by simp, fun a ha b hb => by
      simp at hb
      subst hb
      exact this.2.2 a ha (J / 64, u) (by simp)⟩
  · rcases List.mem_append.1 hp with hp | hp
    · exact Nat.lt_succ_of_lt (h.lo p (by simp [hp]))
    · simp at hp
      subst hp
      show J / 64 * 64 < J + 1
      omega
  · rcases List.mem_append.1 hp with hp | hp
    · exact h.wd p (by simp [hp])
    · simp at hp
      subst hp
      exact Nat.or_lt_two_pow (n := 64) hu (pow_lt64 J)
  · have hb := h.bits j
    rw [fillP_snoc] at hb ⊢
    simp only at hb ⊢
    by_cases e : j / 64 = J / 64
    · rw [if_pos e] at hb ⊢
      rw [Nat.testBit_or, Nat.testBit_two_pow, hb]
      by_cases e' : j = J
      · subst e'
        simp [hg]
      · have h1 : decide (J % 64 = j % 64) = false := by simp; omega
        have h2 : decide (j < J + 1) = decide (j < J) := by simp only [decide_eq_decide]; omega
        rw [h1, h2, Bool.or_false]
    · rw [if_neg e] at hb ⊢
      rw [hb]
      have h2 : decide (j < J + 1) = decide (j < J) := by
        simp only [decide_eq_decide]
        have : j ≠ J := fun e' => e (by rw [e'])
        omega
      rw [h2]
theorem Parts.new {ps : List Pt} {J : Nat} {g : Nat → Bool} (h : Parts ps J g) (hl : ∀ qs p, ps = qs ++ [p] → p.1 ≠ J / 64) (hg : g J = true) : Parts (ps ++ [(J / 64, 2 ^ (J % 64))]) (J + 1) g := by
  have below : ∀ p ∈ ps, p.1 < J / 64 := by
    rcases list_end ps with rfl | ⟨qs, l, rfl⟩
    · simp
    · have hl1 := hl qs l rfl
      have hl2 := h.lo l (by simp)
      have hl3 : l.1 < J / 64 := by omega
      intro p hp
      rcases List.mem_append.1 hp with hp | hp
      · have := (List.pairwise_append.1 h.up).2.2 p hp l (by simp)
        omega
      · simp at hp
        subst hp
        exact hl3
  refine ⟨?_, fun p hp => ?_, fun p hp => ?_, fun j => ?_, by have := h.len; simp at this ⊢; omega⟩
  · rw [List.pairwise_append]
    exact ⟨h.up, by simp, fun a ha b hb => by
      simp at hb
      subst hb
      exact below a ha⟩
  · rcases List.mem_append.1 hp with hp | hp
    · exact Nat.lt_succ_of_lt (h.lo p hp)
    · simp at hp
      subst hp
      show J / 64 * 64 < J + 1
      omega
  · rcases List.mem_append.1 hp with hp | hp
    · exact h.wd p hp
    · simp at hp
      subst hp
      exact pow_lt64 J
  · have hb := h.bits j
    rw [fillP_snoc]
    simp only
    by_cases e : j / 64 = J / 64
    · rw [if_pos e, Nat.testBit_two_pow]
      rw [fillP_out _ ps rfl (fun p hp => by have := below p hp; omega)] at hb
      rw [Nat.zero_testBit] at hb
      by_cases e' : j = J
      · subst e'
        simp [hg]
      · have h1 : decide (J % 64 = j % 64) = false := by simp; omega
        have h2 : decide (j < J + 1) = decide (j < J) := by simp only [decide_eq_decide]; omega
        rw [h1, h2, hb]
    · rw [if_neg e, hb]
      have h2 : decide (j < J + 1) = decide (j < J) := by
        simp only [decide_eq_decide]
        have : j ≠ J := fun e' => e (by rw [e'])
        omega
      rw [h2]

/-! The cells of such words. -/
def ptv (ps : List Pt) : List Value := ps.flatMap fun p => [.int .i64 (p.1 : Int), .int .u64 (p.2 : Int)]
theorem ptv_append (l r : List Pt) : ptv (l ++ r) = ptv l ++ ptv r := by simp [ptv]
theorem ptv_one (p : Pt) : ptv [p] = [.int .i64 (p.1 : Int), .int .u64 (p.2 : Int)] := rfl
theorem ptv_cons (p : Pt) (l : List Pt) : ptv (p :: l) = .int .i64 (p.1 : Int) :: .int .u64 (p.2 : Int) :: ptv l := rfl
theorem ptv_length : ∀ l : List Pt, (ptv l).length = l.length * 2
  | [] => rfl
  | p :: l => by rw [ptv_cons, List.length_cons, List.length_cons, ptv_length l, List.length_cons]; omega
theorem ptv_get : ∀ (l : List Pt) (k : Nat) (hk : k < l.length), (ptv l)[k * 2]? = some (.int .i64 (l[k].1 : Int)) ∧ (ptv l)[k * 2 + 1]? = some (.int .u64 (l[k].2 : Int))
  | [], k, hk => absurd hk (by simp)
  | p :: l, 0, _ => by rw [ptv_cons]; simp
  | p :: l, k + 1, hk => by
    have := ptv_get l k (by simpa using hk)
    rw [ptv_cons, show (k + 1) * 2 = k * 2 + 1 + 1 by omega]
    simpa using this
theorem Row.part {w : World} {A : Option Addr} {l : List Pt} (h : Row w A (ptv l)) {k : Nat} (hk : k < l.length) :
    ∃ g o, A = some ⟨g, o, none⟩ ∧ w.cell? ⟨g, o + k * 2, none⟩ = some (.int .i64 (l[k].1 : Int)) ∧ w.cell? ⟨g, o + k * 2 + 1, none⟩ = some (.int .u64 (l[k].2 : Int)) := by
  obtain ⟨g, o, e, hc⟩ := h (by intro e; have := ptv_length l; rw [e] at this; simp at this; omega)
  obtain ⟨h1, h2⟩ := ptv_get l k hk
  exact ⟨g, o, e, hc _ _ h1, by rw [Nat.add_assoc]; exact hc _ _ h2⟩

/-! Lists that rise. -/
theorem up_unique : ∀ {l r : List Int}, l.Pairwise (· < ·) → r.Pairwise (· < ·) → (∀ x, x ∈ l ↔ x ∈ r) → l = r
  | [], [], _, _, _ => rfl
  | [], y :: r, _, _, h => by have := (h y).2 (by simp); simp at this
  | x :: l, [], _, _, h => by have := (h x).1 (by simp); simp at this
  | x :: l, y :: r, hl, hr, h => by
    obtain ⟨hx, hl1⟩ := List.pairwise_cons.1 hl
    obtain ⟨hy, hr1⟩ := List.pairwise_cons.1 hr
    have e : x = y := by
      have h1 := (h x).1 (by simp)
      have h2 := (h y).2 (by simp)
      rcases List.mem_cons.1 h1 with h1 | h1
      · exact h1
      · rcases List.mem_cons.1 h2 with h2 | h2
        · exact h2.symm
        · have := hx y h2
          have := hy x h1
          omega
    subst e
    congr 1
    refine up_unique hl1 hr1 fun z => ?_
    constructor
    · intro hz
      rcases List.mem_cons.1 ((h z).1 (List.mem_cons_of_mem _ hz)) with e | h'
      · have := hx z hz
        omega
      · exact h'
    · intro hz
      rcases List.mem_cons.1 ((h z).2 (List.mem_cons_of_mem _ hz)) with e | h'
      · have := hy z hz
        omega
      · exact h'
/-- How many of a list are below x. -/
def posU (l : List Int) (x : Int) : Nat := (l.takeWhile fun y => decide (y < x)).length
/-- One number put into its place, if it is not there. -/
def putU (l : List Int) (x : Int) : List Int := if l[posU l x]? = some x then l else l.take (posU l x) ++ [x] ++ l.drop (posU l x)
/-- The numbers of a list, each once, rising. -/
def symU (b : List Int) : List Int := b.foldl putU []
theorem symU_next {b : List Int} {k : Nat} {x : Int} (h : b[k]? = some x) : symU (b.take (k + 1)) = putU (symU (b.take k)) x := by
  obtain ⟨hk, e⟩ := List.getElem?_eq_some_iff.1 h
  rw [List.take_succ_eq_append_getElem hk, e]
  simp [symU, List.foldl_append]
theorem posU_le (l : List Int) (x : Int) : posU l x ≤ l.length := by
  unfold posU
  exact (List.takeWhile_sublist _).length_le
theorem posU_before : ∀ {l : List Int} {x : Int} {i : Nat} {y : Int}, i < posU l x → l[i]? = some y → y < x
  | [], _, _, _, h, _ => by simp [posU] at h
  | z :: l, x, i, y, h, hy => by
    unfold posU at h
    rw [List.takeWhile_cons] at h
    by_cases hz : z < x
    · cases i with
      | zero => simp at hy; omega
      | succ i =>
        simp [hz] at h hy
        exact posU_before (l := l) h hy
    · simp [hz] at h
theorem posU_at : ∀ {l : List Int} {x : Int} {y : Int}, l[posU l x]? = some y → x ≤ y
  | [], _, _, h => by simp at h
  | z :: l, x, y, h => by
    unfold posU at h
    rw [List.takeWhile_cons] at h
    by_cases hz : z < x
    · simp [hz] at h
      exact posU_at (l := l) h
    · simp [hz] at h
      omega
theorem posU_is {l : List Int} {x : Int} {k : Nat} (h1 : ∀ i y, i < k → l[i]? = some y → y < x) (hk : k ≤ l.length) (h2 : ∀ y, l[k]? = some y → x ≤ y) : posU l x = k := by
  rcases Nat.lt_trichotomy (posU l x) k with h | h | h
  · have hl := List.getElem?_eq_getElem (Nat.lt_of_lt_of_le h hk)
    have := h1 _ _ h hl
    have := posU_at hl
    omega
  · exact h
  · have hl := List.getElem?_eq_getElem (Nat.lt_of_lt_of_le h (posU_le l x))
    have := posU_before h hl
    have := h2 _ hl
    omega
theorem putU_mem {l : List Int} {x z : Int} : z ∈ putU l x ↔ z = x ∨ z ∈ l := by
  unfold putU
  split
  · rename_i h
    constructor
    · exact .inr
    · rintro (rfl | h')
      · exact List.mem_of_getElem? h
      · exact h'
  · constructor
    · intro h
      simp only [List.append_assoc, List.mem_append, List.mem_singleton] at h
      rcases h with h | h | h
      · exact .inr (List.mem_of_mem_take h)
      · exact .inl h
      · exact .inr (List.mem_of_mem_drop h)
    · intro h
      simp only [List.append_assoc, List.mem_append, List.mem_singleton]
      rcases h with h | h
      · exact .inr (.inl h)
      · rw [← List.take_append_drop (posU l x) l] at h
        rcases List.mem_append.1 h with h | h
        · exact .inl h
        · exact .inr (.inr h)
theorem putU_up {l : List Int} {x : Int} (h : l.Pairwise (· < ·)) : (putU l x).Pairwise (· < ·) := by
  unfold putU
  split
  · exact h
  · rename_i hne
    have ht : ∀ y ∈ l.take (posU l x), y < x := by
      intro y hy
      obtain ⟨i, hi, e⟩ := List.mem_iff_getElem.1 hy
      rw [List.getElem_take] at e
      have hi' : i < posU l x := by
        rw [List.length_take] at hi
        omega
      exact posU_before hi' (by rw [← e]; exact List.getElem?_eq_getElem _)
    have hd : ∀ y ∈ l.drop (posU l x), x < y := by
      intro y hy
      have hlt : posU l x < l.length := by
        have : 0 < (l.drop (posU l x)).length := List.length_pos_of_mem hy
        rw [List.length_drop] at this
        omega
      have hz : l[posU l x]? = some l[posU l x] := List.getElem?_eq_getElem hlt
      have h1 := posU_at hz
      have h2 : l[posU l x] ≠ x := fun e => hne (by rw [hz, e])
      rw [List.drop_eq_getElem_cons hlt] at hy
      rcases List.mem_cons.1 hy with e | hy
      · omega
      · have hp : (l.drop (posU l x)).Pairwise (· < ·) := h.sublist (List.drop_sublist _ _)
        rw [List.drop_eq_getElem_cons hlt] at hp
        have := (List.pairwise_cons.1 hp).1 y hy
        omega
    rw [List.append_assoc, List.pairwise_append]
    refine ⟨h.sublist (List.take_sublist _ _), ?_, fun a ha b hb => ?_⟩
    · rw [List.singleton_append, List.pairwise_cons]
      exact ⟨hd, h.sublist (List.drop_sublist _ _)⟩
    · rw [List.singleton_append, List.mem_cons] at hb
      have := ht a ha
      rcases hb with e | hb
      · omega
      · have := hd b hb
        omega
theorem symU_all : ∀ (b : List Int) (l : List Int), l.Pairwise (· < ·) → (b.foldl putU l).Pairwise (· < ·) ∧ ∀ z, z ∈ b.foldl putU l ↔ z ∈ l ∨ z ∈ b
  | [], l, h => ⟨h, fun z => by simp⟩
  | x :: b, l, h => by
    obtain ⟨h1, h2⟩ := symU_all b (putU l x) (putU_up h)
    refine ⟨h1, fun z => ?_⟩
    rw [List.foldl_cons, h2 z, putU_mem, List.mem_cons]
    constructor
    · rintro ((h | h) | h)
      · exact .inr (.inl h)
      · exact .inl h
      · exact .inr (.inr h)
    · rintro (h | h | h)
      · exact .inl (.inr h)
      · exact .inl (.inl h)
      · exact .inr h
theorem symU_up (b : List Int) : (symU b).Pairwise (· < ·) := (symU_all b [] List.Pairwise.nil).1
theorem symU_mem (b : List Int) (z : Int) : z ∈ symU b ↔ z ∈ b := by
  have := (symU_all b [] List.Pairwise.nil).2 z
  simpa [symU] using this
theorem putU_length (l : List Int) (x : Int) : (putU l x).length ≤ l.length + 1 := by
  unfold putU
  split
  · omega
  · have := posU_le l x
    simp only [List.length_append, List.length_take, List.length_drop, List.length_cons, List.length_nil]
    omega
theorem symU_len : ∀ (b l : List Int), (b.foldl putU l).length ≤ l.length + b.length
  | [], l => by simp
  | x :: b, l => by
    have := symU_len b (putU l x)
    have := putU_length l x
    simp only [List.foldl_cons, List.length_cons]
    omega
theorem symU_length (b : List Int) : (symU b).length ≤ b.length := by
  have := symU_len b []
  simpa [symU] using this

end Go.Proofs.Ythmfolekohomiaa
