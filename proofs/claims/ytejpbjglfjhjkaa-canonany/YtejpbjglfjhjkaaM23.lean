/-
  Words and contracts that the proof leans on.
-/
import Derived.Test.YtejpbjglfjhjkaaM14
import Derived.BigRegion
import Derived.Test.YtejpbjglfjhjkaaM10
import Derived.Test.YtejpbjglfjhjkaaM7
import Derived.Test.YtejpbjglfjhjkaaM3
namespace Go.Proofs.Ytejpbjglfjhjkaa
open Go.RowKit

def stepA (x : Int) (G F : Nat → Int) (p : Nat × Int) : Nat → Int := fun c => if c = p.1 + 1 then (if x = p.2 then IntKind.i64.wrap (G p.1 + 1) else (if G (p.1 + 1) < F p.1 then F p.1 else G (p.1 + 1))) else F c
/-- The row when k numbers of b are done. -/
def fillA (x : Int) (b : List Int) (G F : Nat → Int) : Nat → Nat → Int
  | 0 => F
  | k + 1 => stepA x G (fillA x b G F k) (k, b[k]?.getD 0)

def FaRel (x : Int) (b : List Int) (h g m : Nat) (G F : Nat → Int) (w : World) (i : Value) (wr : World) : Prop :=
  ∃ k : Nat, k ≤ m ∧ i = .int .i64 (k : Int) ∧ IsRow wr g (m + 1) (fillA x b G F k) ∧ IsRow wr h (m + 1) G ∧ w.grownBy wr (some g)
theorem FaRel.drew {x : Int} {b : List Int} {h g m : Nat} {G F : Nat → Int} {w wr : World} {i : Value} (hr : FaRel x b h g m G F w i wr) : FaRel x b h g m G F w i wr.drew := by
  obtain ⟨k, h1, h2, h3, h4, h5⟩ := hr
  exact ⟨k, h1, h2, h3, h4, grown_drew h5⟩

end Go.Proofs.Ytejpbjglfjhjkaa

namespace Go.Proofs.Ytejpbjglfjhjkaa
open Go.RowKit

/-- L of what is ahead of r and c. -/
def px (a b : List Int) (r c : Nat) : Nat := lcs (a.take r) (b.take c)
/-- Ahead and behind together are no more, -/
theorem px_lx_le (a b : List Int) (i j : Nat) : px a b i j + lx a b i j ≤ lcs a b := by
  obtain ⟨s, h1, h2, h3⟩ := lcs_has (a.take i) (b.take j)
  obtain ⟨t, k1, k2, k3⟩ := lcs_has (a.drop i) (b.drop j)
  have e1 : (s ++ t).Sublist a := by have := h1.append k1; rwa [List.take_append_drop] at this
  have e2 : (s ++ t).Sublist b := by have := h2.append k2; rwa [List.take_append_drop] at this
  have := lcs_top e1 e2
  rw [List.length_append] at this
  unfold px lx
  omega
/-- and somewhere in each row just as much. -/
theorem px_lx_has (a b : List Int) (i : Nat) : ∃ j, j ≤ b.length ∧ px a b i j + lx a b i j = lcs a b := by
  obtain ⟨s, h1, h2, h3⟩ := lcs_has a b
  rw [← List.take_append_drop i a] at h1
  obtain ⟨s1, s2, rfl, k1, k2⟩ := List.sublist_append_iff.1 h1
  obtain ⟨b1, b2, rfl, l1, l2⟩ := List.append_sublist_iff.1 h2
  refine ⟨b1.length, by simp, ?_⟩
  have e1 : s1.length ≤ px a (b1 ++ b2) i b1.length := by
    unfold px
    refine lcs_top k1 ?_
    simpa using l1
  have e2 : s2.length ≤ lx a (b1 ++ b2) i b1.length := by
    unfold lx
    refine lcs_top k2 ?_
    simpa using l2
  have := px_lx_le a (b1 ++ b2) i b1.length
  rw [List.length_append] at h3
  omega

end Go.Proofs.Ytejpbjglfjhjkaa

namespace Go.Proofs.Ytejpbjglfjhjkaa
open Go.RowKit

/-- A row that is told by its places, as a list. -/
def rowL (m : Nat) (F : Nat → Int) : List Int := (List.range (m + 1)).map F
theorem rowL_length (m : Nat) (F : Nat → Int) : (rowL m F).length = m + 1 := by simp [rowL]
theorem rowL_get {m : Nat} {F : Nat → Int} {c : Nat} (h : c ≤ m) : (rowL m F)[c]? = some (F c) := by
  unfold rowL
  rw [List.getElem?_map, List.getElem?_range (by omega)]
  rfl
/-- Number c of a list. -/
def nth (l : List Int) (c : Nat) : Int := l[c]?.getD 0
theorem nth_of {l : List Int} {c : Nat} {x : Int} (h : l[c]? = some x) : nth l c = x := by unfold nth; rw [h]; rfl
theorem nth_rowL {m : Nat} {F : Nat → Int} {c : Nat} (h : c ≤ m) : nth (rowL m F) c = F c := nth_of (rowL_get h)

/-- The rows of all of a, from the front, from the back. -/
def frontL (a b : List Int) : List Int := rowL b.length fun c => (px a b a.length c : Nat)
def backL (a b : List Int) : List Int := rowL b.length fun c => (lx a b 0 c : Nat)
theorem frontL_length (a b : List Int) : (frontL a b).length = b.length + 1 := rowL_length _ _
theorem backL_length (a b : List Int) : (backL a b).length = b.length + 1 := rowL_length _ _
theorem nth_front {a b : List Int} {c : Nat} (h : c ≤ b.length) : nth (frontL a b) c = (lcs a (b.take c) : Nat) := by
  unfold frontL
  rw [nth_rowL h]
  unfold px
  rw [List.take_length]
theorem nth_back {a b : List Int} {c : Nat} (h : c ≤ b.length) : nth (backL a b) c = (lcs a (b.drop c) : Nat) := by
  unfold backL
  rw [nth_rowL h]
  unfold lx
  rw [List.drop_zero]

/-- The first place where both together are most, and how much that is, when k are seen. -/
def sumAt (f g : List Int) (c : Nat) : Int := IntKind.i64.wrap (nth f c + nth g c)
def spR (f g : List Int) : Nat → Nat × Int
  | 0 => (0, sumAt f g 0)
  | k + 1 => if (spR f g k).2 < sumAt f g k then (k, sumAt f g k) else spR f g k
theorem spR_is (f g : List Int) : ∀ k, (spR f g k).2 = sumAt f g (spR f g k).1 ∧ ((spR f g k).1 < k ∨ (spR f g k).1 = 0) ∧ (∀ c, c < k → sumAt f g c ≤ (spR f g k).2) ∧ ∀ c, c < (spR f g k).1 → sumAt f g c < (spR f g k).2 := by
  intro k
  induction k with
  | zero => exact ⟨rfl, .inr rfl, fun c h => by omega, fun c h => by simp [spR] at h⟩
  | succ k ih =>
    obtain ⟨h1, h2, h3, h4⟩ := ih
    show ((if (spR f g k).2 < sumAt f g k then (k, sumAt f g k) else spR f g k).2 = sumAt f g (if (spR f g k).2 < sumAt f g k then (k, sumAt f g k) else spR f g k).1) ∧ ((if (spR f g k).2 < sumAt f g k then (k, sumAt f g k) else spR f g k).1 < k + 1 ∨ (if (spR f g k).2 < sumAt f g k then (k, sumAt f g k) else spR f g k).1 = 0) ∧ (∀ c, c < k + 1 → sumAt f g c ≤ (if (spR f g k).2 < sumAt f g k then (k, sumAt f g k) else spR f g k).2) ∧ ∀ c, c < (if (spR f g k).2 < sumAt f g k then (k, sumAt f g k) else spR f g k).1 → sumAt f g c < (if (spR f g k).2 < sumAt f g k then (k, sumAt f g k) else spR f g k).2
    by_cases e : (spR f g k).2 < sumAt f g k
    · rw [if_pos e]
      refine ⟨rfl, .inl (by show k < k + 1; omega), fun c hc => ?_, fun c hc => ?_⟩
      · show sumAt f g c ≤ sumAt f g k
        by_cases e' : c = k
        · subst e'; omega
        · have := h3 c (by omega); omega
      · have : c < k := hc
        have := h3 c this
        show sumAt f g c < sumAt f g k
        omega
    · rw [if_neg e]
      refine ⟨h1, h2.imp (fun h => by omega) id, fun c hc => ?_, h4⟩
      by_cases e' : c = k
      · subst e'; omega
      · exact h3 c (by omega)
/-- What Split tells. -/
def splitL (f g : List Int) : Nat × Int := if f.length = 0 ∨ f.length ≠ g.length then (0, 0) else spR f g f.length
theorem split_meet {a b : List Int} {i : Nat} (hn : a.length ≤ 1048576) : let s := splitL (frontL (a.take i) b) (backL (a.drop i) b)
    s.1 ≤ b.length ∧ s.2 = (lcs a b : Nat) ∧ lcs (a.take i) (b.take s.1) + lcs (a.drop i) (b.drop s.1) = lcs a b := by
  intro s
  have hs : s = spR (frontL (a.take i) b) (backL (a.drop i) b) (b.length + 1) := by
    show splitL _ _ = _
    unfold splitL
    rw [if_neg (by rw [frontL_length, backL_length]; omega), frontL_length]
  have hS : ∀ c, c ≤ b.length → sumAt (frontL (a.take i) b) (backL (a.drop i) b) c = ((px a b i c + lx a b i c : Nat) : Int) := fun c hc => by
    unfold sumAt
    rw [nth_front hc, nth_back hc]
    have := px_lx_le a b i c
    have := lcs_le_left a b
    unfold px lx at *
    rw [IntWalk.i64_in _ (by omega)]
    omega
  obtain ⟨h1, h2, h3, _⟩ := spR_is (frontL (a.take i) b) (backL (a.drop i) b) (b.length + 1)
  rw [← hs] at h1 h2 h3
  have h0 : s.1 ≤ b.length := by omega
  rw [hS _ h0] at h1
  obtain ⟨j, hj, e⟩ := px_lx_has a b i
  have h4 := h3 j (by omega)
  rw [hS j hj, e, h1] at h4
  have h5 := px_lx_le a b i s.1
  have h6 : px a b i s.1 + lx a b i s.1 = lcs a b := by omega
  exact ⟨h0, by rw [h1, h6], h6⟩

end Go.Proofs.Ytejpbjglfjhjkaa

namespace Go.Proofs.Ytejpbjglfjhjkaa

/-- Where the second list is parted when the first one is cut in half. -/
def hjo (a b : List Int) : Nat := (splitL (frontL (a.take (a.length / 2)) b) (backL (a.drop (a.length / 2)) b)).1
theorem hjo_meet {a b : List Int} (hn : a.length ≤ 1048576) : hjo a b ≤ b.length ∧ lcs (a.take (a.length / 2)) (b.take (hjo a b)) + lcs (a.drop (a.length / 2)) (b.drop (hjo a b)) = lcs a b := by
  obtain ⟨h1, _, h3⟩ := split_meet (a := a) (b := b) (i := a.length / 2) hn
  exact ⟨h1, h3⟩

/-- A part of one number. -/
def one1 (x : Int) (b : List Int) (i j : Int) : List Pr := match at1 x b with | none => [] | some k => [(i, j + (k : Int))]

/-- The list of a part whose places begin at i and j, and its steps. -/
def hv (a b : List Int) (i j : Int) : List Pr × Nat :=
  if a.length = 0 ∨ b.length = 0 then ([], 0)
  else if h : a.length = 1 then (one1 (a[0]'(by omega)) b i j, b.length)
  else
    let x := hv (a.take (a.length / 2)) (b.take (hjo a b)) i j
    let y := hv (a.drop (a.length / 2)) (b.drop (hjo a b)) (i + (a.length / 2 : Nat)) (j + (hjo a b : Nat))
    (x.1 ++ y.1, a.length * b.length + x.2 + y.2)
termination_by a.length
decreasing_by
  all_goals (simp only [List.length_take, List.length_drop]; omega)
theorem hv_none {a b : List Int} {i j : Int} (h : a.length = 0 ∨ b.length = 0) : hv a b i j = ([], 0) := by rw [hv, if_pos h]
theorem hv_one {x : Int} {b : List Int} {i j : Int} (h : b.length ≠ 0) : hv [x] b i j = (one1 x b i j, b.length) := by
  rw [hv, if_neg (by simp; intro e; simp [e] at h), dif_pos (show [x].length = 1 from rfl)]
  rfl
theorem hv_two {a b : List Int} {i j : Int} (h : 2 ≤ a.length) (hb : b.length ≠ 0) : hv a b i j = ((hv (a.take (a.length / 2)) (b.take (hjo a b)) i j).1 ++ (hv (a.drop (a.length / 2)) (b.drop (hjo a b)) (i + (a.length / 2 : Nat)) (j + (hjo a b : Nat))).1,
    a.length * b.length + (hv (a.take (a.length / 2)) (b.take (hjo a b)) i j).2 + (hv (a.drop (a.length / 2)) (b.drop (hjo a b)) (i + (a.length / 2 : Nat)) (j + (hjo a b : Nat))).2) := by
  rw [hv, if_neg (by omega), dif_neg (by omega)]

theorem one1_is {x : Int} {b : List Int} {i j : Nat} {a : List Int} (ha : a = [x]) : ∃ l, one1 x b i j = sh i j l ∧ G a b l ∧ l.length = lcs a b := by
  subst ha
  unfold one1
  cases h : at1 x b with
  | none => exact ⟨[], rfl, trivial, by rw [lcs_no [] h, lcs_nil_left]; rfl⟩
  | some k =>
    refine ⟨[(0, (k : Int))], ?_, ⟨0, k, x, rfl, Nat.le_refl _, Nat.zero_le _, rfl, (at1_some h).1, trivial⟩, ?_⟩
    · simp only [sh, List.map_cons, List.map_nil, List.cons.injEq, Prod.mk.injEq, and_true]
      omega
    · rw [lcs_yes [] h, lcs_nil_left, lcs_nil_left]
      rfl

/-- The list is good, and as long as may be. -/
theorem hv_good : ∀ (N : Nat) (a b : List Int) (i j : Nat), a.length ≤ N → a.length ≤ 1048576 → ∃ l, (hv a b (i : Int) (j : Int)).1 = sh i j l ∧ G a b l ∧ l.length = lcs a b := by
  intro N
  induction N using Nat.strongRecOn with
  | ind N ih =>
  intro a b i j hN hn
  by_cases h0 : a.length = 0 ∨ b.length = 0
  · refine ⟨[], by rw [hv_none h0]; rfl, trivial, ?_⟩
    rcases h0 with h0 | h0
    · rw [List.eq_nil_of_length_eq_zero h0, lcs_nil_left]; rfl
    · rw [List.eq_nil_of_length_eq_zero h0, lcs_nil_right]; rfl
  by_cases h1 : a.length = 1
  · obtain ⟨x, rfl⟩ := List.length_eq_one_iff.1 h1
    rw [hv_one (by omega)]
    exact one1_is rfl
  · obtain ⟨m1, m2⟩ := hjo_meet (a := a) (b := b) hn
    rw [hv_two (by omega) (by omega)]
    generalize hjo a b = J at *
    generalize hh : a.length / 2 = h at *
    obtain ⟨l, e1, g1, n1⟩ := ih (N - 1) (by omega) (a.take h) (b.take J) i j (by rw [List.length_take]; omega) (by rw [List.length_take]; omega)
    obtain ⟨r, e2, g2, n2⟩ := ih (N - 1) (by omega) (a.drop h) (b.drop J) (i + h) (j + J) (by rw [List.length_drop]; omega) (by rw [List.length_drop]; omega)
    rw [Int.natCast_add, Int.natCast_add] at e2
    refine ⟨l ++ sh h J r, ?_, g_join g1 g2, ?_⟩
    · show _ ++ _ = _
      rw [e1, e2, sh_append, sh_sh]
    · rw [List.length_append, sh_length, n1, n2, m2]
theorem hv_is {a b : List Int} (hn : a.length ≤ 1048576) : goodB a b (hv a b 0 0).1 = true ∧ (hv a b 0 0).1.length = lcs a b := by
  obtain ⟨l, e, g, n⟩ := hv_good a.length a b 0 0 (Nat.le_refl _) hn
  rw [sh_zero] at e
  simp only [Int.natCast_zero] at e
  rw [e]
  exact ⟨good_iff.2 g, n⟩
theorem hv_len {a b : List Int} {i j : Nat} (hn : a.length ≤ 1048576) : (hv a b (i : Int) (j : Int)).1.length = lcs a b := by
  obtain ⟨l, e, g, n⟩ := hv_good a.length a b i j (Nat.le_refl _) hn
  rw [e, sh_length, n]

/-- How many binary digits. -/
def bl (n : Nat) : Nat := if n = 0 then 0 else n.log2 + 1
theorem bl_zero : bl 0 = 0 := rfl
theorem bl_pos {n : Nat} (h : n ≠ 0) : bl n = bl (n / 2) + 1 := by
  unfold bl
  rw [if_neg h]
  by_cases h1 : n / 2 = 0
  · rw [if_pos h1, Nat.log2_def, if_neg (by omega)]
  · rw [if_neg h1, Nat.log2_def, if_pos (by omega)]
theorem bl_mono : ∀ (N n m : Nat), m ≤ N → n ≤ m → bl n ≤ bl m := by
  intro N
  induction N using Nat.strongRecOn with
  | ind N ih =>
  intro n m hm h
  by_cases h0 : n = 0
  · rw [h0, bl_zero]; exact Nat.zero_le _
  · rw [bl_pos h0, bl_pos (show m ≠ 0 by omega)]
    have := ih (m / 2) (by omega) (n / 2) (m / 2) (Nat.le_refl _) (by omega)
    omega
theorem bl_le {n k : Nat} (h : n < 2 ^ k) : bl n ≤ k := by
  induction k generalizing n with
  | zero => rw [show n = 0 by simpa using h, bl_zero]; exact Nat.zero_le _
  | succ k ih =>
    by_cases h0 : n = 0
    · rw [h0, bl_zero]; exact Nat.zero_le _
    · rw [bl_pos h0]
      have := ih (n := n / 2) (by rw [Nat.pow_succ] at h; omega)
      omega

/-- The steps are bounded. -/
def mst (n m : Nat) : Nat := m * (2 * n + bl n)
theorem hv_tight : ∀ (N : Nat) (a b : List Int) (i j : Int), a.length ≤ N → a.length ≤ 1048576 → 1 ≤ a.length → (hv a b i j).2 ≤ b.length * (2 * a.length - 1 + bl (a.length - 1)) := by
  intro N
  induction N using Nat.strongRecOn with
  | ind N ih =>
  intro a b i j hN hn h1
  by_cases h0 : b.length = 0
  · rw [hv_none (.inr h0)]; exact Nat.zero_le _
  by_cases h2 : a.length = 1
  · obtain ⟨x, rfl⟩ := List.length_eq_one_iff.1 h2
    rw [hv_one h0]
    show b.length ≤ b.length * (2 * 1 - 1 + bl (1 - 1))
    rw [show 1 - 1 = 0 from rfl, bl_zero]
    omega
  · obtain ⟨m1, _⟩ := hjo_meet (a := a) (b := b) hn
    rw [hv_two (by omega) h0]
    generalize hjo a b = J at *
    generalize hh : a.length / 2 = h at *
    have g1 := ih (N - 1) (by omega) (a.take h) (b.take J) i j (by rw [List.length_take]; omega) (by rw [List.length_take]; omega) (by rw [List.length_take]; omega)
    have g2 := ih (N - 1) (by omega) (a.drop h) (b.drop J) (i + (h : Nat)) (j + (J : Nat)) (by rw [List.length_drop]; omega) (by rw [List.length_drop]; omega) (by rw [List.length_drop]; omega)
    rw [List.length_take, List.length_take, Nat.min_eq_left (by omega), Nat.min_eq_left (by omega)] at g1
    rw [List.length_drop, List.length_drop] at g2
    show _ + _ + _ ≤ _
    generalize (hv (a.take h) (b.take J) i j).2 = S1 at *
    generalize (hv (a.drop h) (b.drop J) (i + (h : Nat)) (j + (J : Nat))).2 = S2 at *
    generalize a.length = n at *
    generalize b.length = m at *
    have k1 : 2 * h - 1 + bl (h - 1) ≤ n - 1 + bl (n - 1) := by
      have := bl_mono (n - 1) (h - 1) (n - 1) (Nat.le_refl _) (by omega)
      omega
    have k2 : 2 * (n - h) - 1 + bl (n - h - 1) ≤ n - 1 + bl (n - 1) := by
      have e := bl_pos (show n - 1 ≠ 0 by omega)
      have := bl_mono ((n - 1) / 2) (n - h - 1) ((n - 1) / 2) (Nat.le_refl _) (by omega)
      omega
    have k3 : J * (2 * h - 1 + bl (h - 1)) ≤ J * (n - 1 + bl (n - 1)) := Nat.mul_le_mul_left _ k1
    have k4 : (m - J) * (2 * (n - h) - 1 + bl (n - h - 1)) ≤ (m - J) * (n - 1 + bl (n - 1)) := Nat.mul_le_mul_left _ k2
    have k5 : J * (n - 1 + bl (n - 1)) + (m - J) * (n - 1 + bl (n - 1)) = m * (n - 1 + bl (n - 1)) := by rw [← Nat.add_mul]; congr 1; omega
    have k6 : m * (2 * n - 1 + bl (n - 1)) = n * m + m * (n - 1 + bl (n - 1)) := by rw [Nat.mul_comm n m, ← Nat.mul_add]; congr 1; omega
    omega
theorem hv_steps {a b : List Int} (i j : Int) (hn : a.length ≤ 1048576) : (hv a b i j).2 ≤ mst a.length b.length := by
  by_cases h0 : a.length = 0
  · rw [hv_none (.inl h0)]; exact Nat.zero_le _
  · refine Nat.le_trans (hv_tight a.length a b i j (Nat.le_refl _) hn (by omega)) (Nat.mul_le_mul_left _ ?_)
    have := bl_mono a.length (a.length - 1) a.length (Nat.le_refl _) (by omega)
    omega
theorem mst_le {n m : Nat} (hn : n ≤ 1048576) (hm : m ≤ 1048576) : mst n m ≤ 1048576 * 2097173 := by
  have h1 : bl n ≤ 21 := bl_le (Nat.lt_of_le_of_lt hn (by decide))
  exact Nat.mul_le_mul hm (by omega)

end Go.Proofs.Ytejpbjglfjhjkaa

namespace Go.Proofs.Ytejpbjglfjhjkaa
open Go.RowKit

def MadeS (l : List Pr) (s : Nat) (w : World) (e : Ending) (w' : World) : Prop := ∃ v, e = .returned (.tuple #[v, .int .i64 (s : Int)]) ∧ w'.ownsRow w.heap.size 28 2 v l.length (pv l) ∧ Below w.heap.size w w'

end Go.Proofs.Ytejpbjglfjhjkaa

namespace Go.Proofs.Ytejpbjglfjhjkaa
open Go.RowKit

end Go.Proofs.Ytejpbjglfjhjkaa

namespace Go.Proofs.Ytejpbjglfjhjkaa
open Go.RowKit

/-! ### Turned -/
/-- The numbers from place r on, turned round. -/
def TuRel (l : List Int) (w : World) (v i : Value) (wr : World) : Prop :=
  (∃ r t : Nat, r + t + 1 = l.length ∧ i = .int .i64 (r : Int) ∧ wr.ownsRow w.heap.size 3 1 v t (iv (l.drop (r + 1)).reverse) ∧ Below w.heap.size w wr) ∨ (i = .int .i64 (-1) ∧ wr.ownsRow w.heap.size 3 1 v l.length (iv l.reverse) ∧ Below w.heap.size w wr)
theorem tu_start {l : List Int} {w : World} {x : Int} (hx : x = (l.length : Int) - 1) : TuRel l w (.slice none 0 0) (.int .i64 x) w := by
  subst hx
  cases h : l.length with
  | zero =>
    have := List.eq_nil_of_length_eq_zero h
    subst this
    exact .inr ⟨by simp, by simpa [iv] using World.ownsRow_nil w _ _ _, Below.refl _ _⟩
  | succ n => exact .inl ⟨n, 0, by omega, by congr 1; omega, by rw [List.drop_of_length_le (by omega)]; exact World.ownsRow_nil _ _ _ _, Below.refl _ _⟩
theorem tu_next {l : List Int} {w wr : World} {v : Value} {r t : Nat} {x y : Int} (hr : r + t + 1 = l.length) (hx : l[r]? = some x) (hy : y = (r : Int) - 1) (h : wr.ownsRow w.heap.size 3 1 v (t + 1) (iv (l.drop (r + 1)).reverse ++ [.int .i64 x])) (hb : Below w.heap.size w wr) : TuRel l w v (.int .i64 y) wr := by
  subst hy
  have e : iv (l.drop r).reverse = iv (l.drop (r + 1)).reverse ++ [.int .i64 x] := by
    obtain ⟨g, e⟩ := List.getElem?_eq_some_iff.1 hx
    rw [List.drop_eq_getElem_cons g, e, List.reverse_cons, iv_append]
    rfl
  cases r with
  | zero => exact .inr ⟨by simp, by rw [← hr, show 0 + t + 1 = t + 1 by omega]; rw [List.drop_zero] at e; rw [e]; exact h, hb⟩
  | succ r => exact .inl ⟨r, t + 1, by omega, by congr 1; omega, by rw [e]; exact h, hb⟩

set_option maxHeartbeats 800000 in
theorem turned_any (A : Option Addr) (N c : Nat) (l : List Int) (w : World) (hN : l.length = N) (hb : N ≤ 1048576) (hr : Row w A (iv l)) :
    Calls Try.prog 19 #[.slice A N c] w (MadeI l.reverse w) := by
  subst hN
  obtain ⟨i0, hi, hz0, hz1, hz2⟩ := info_parts Try.infoInt
  go_enter Try.func19, Try.ntmps19
  go_wp2_with fail
  go_loopw [3, 4] (fun v i wr => TuRel l w v i wr) (fun _ i _ => (intOf i + 1).toNat)
  case atStart => exact tu_start (by omega)
  case round =>
    rcases hrel with ⟨r, t, hrt, rfl, hwn, hbr⟩ | ⟨rfl, hwn, hbr⟩
    · have hlt : r < l.length := by omega
      obtain ⟨g, o, rfl, hc⟩ := (hr.below hbr).int hlt
      have HX : Hid (l[r]? = some l[r]) := List.getElem?_eq_getElem hlt
      generalize l[r] = x at *
      have hsz := hbr.size
      have HB := Lib.hid hbr
      clear hr
      go_wp2_with (at_builtin; refine wpList_append_own _ rfl (.tmp 12) (.tmp 17) 26 rfl w.heap.size 3 i0 (.int .i64 0) 1 8 Try.underlying26 hi hz0 hz1 hz2 rfl (by decide) _ _ _ rfl (hwn.alloc _) ⟨wr.heap.size, 0, none⟩ 1 1 [_] rfl rfl (cell_one_new _ _ _) (one_int _ _) (by unfold maxLen; omega) (by omega) (by simp; omega) ?_)
      intro v' w3 hown' hg' _
      have R := Lib.hid (fun y hy => tu_next (y := y) hrt HX.out hy hown' ((HB.out.alloc (by omega) _).grown hg' (by simp; omega) (fun x hx => (hwn.lt x hx).1)))
      clear hown' hg' hwn hbr
      go_wp2_with fail
      go_roundw
      case rel => exact R.out _ (by omega)
      case measure => simp [intOf]
    · have HF : Hid (MadeI l.reverse w (.returned u3) wr) := ⟨u3, rfl, by rw [List.length_reverse]; exact hwn, hbr⟩
      clear hwn hbr
      go_wp2_with fail
      go_ret
      exact HF.out

/-! ### Dist -/
/-! ### Picked -/
def bvs (l : List Bool) : List Value := l.map Value.bool
theorem Row.bool {w : World} {A : Option Addr} {l : List Bool} (h : Row w A (bvs l)) {k : Nat} (hk : k < l.length) : ∃ g o, A = some ⟨g, o, none⟩ ∧ w.cell? ⟨g, o + k, none⟩ = some (.bool l[k]) := by
  obtain ⟨g, o, e, hc⟩ := h.at_ k (by simpa [bvs] using hk)
  exact ⟨g, o, e, by rw [hc]; simp [bvs]⟩
end Go.Proofs.Ytejpbjglfjhjkaa

namespace Go.Proofs.Ytejpbjglfjhjkaa
open Go.RowKit

/-- A table in memory: its rows lie in the blocks blk. -/
def Tab (f : Nat → Nat → Int) (n m T : Nat) (blk : Nat → Nat) (w : World) : Prop :=
  w.rowIs T 26 (n + 1) (fun r => .slice (some ⟨blk r, 0, none⟩) (m + 1) (m + 1)) ∧ ∀ r, r ≤ n → IsRow w (blk r) (m + 1) (f r)
theorem Tab.congr {f f' : Nat → Nat → Int} {n m T : Nat} {blk : Nat → Nat} {w : World} (h : Tab f n m T blk w) (e : ∀ r, r ≤ n → ∀ c, c ≤ m → f r c = f' r c) : Tab f' n m T blk w :=
  ⟨h.1, fun r hr => World.rowIs.congr (h.2 r hr) fun c hc => by rw [e r hr c (by omega)]⟩
theorem Tab.grown {f : Nat → Nat → Int} {n m T r0 : Nat} {blk : Nat → Nat} {w w' : World} {F : Nat → Int} (h : Tab f n m T blk w) (hg : w.grownBy w' (some (blk r0))) (hT : T ≠ blk r0) (hne : ∀ r, r ≤ n → r ≠ r0 → blk r ≠ blk r0) (hr : IsRow w' (blk r0) (m + 1) F) : Tab (fun r c => if r = r0 then F c else f r c) n m T blk w' := by
  refine ⟨rowIs_grown h.1 hg (fun e => hT (by injection e)), fun r hr' => ?_⟩
  by_cases e : r = r0
  · subst e
    simpa using hr
  · have := rowIs_grown (h.2 r hr') hg (fun e' => hne r hr' e (by injection e'))
    show w'.rowIs _ _ _ (fun c => .int .i64 (if r = r0 then F c else f r c))
    simpa [e] using this
theorem Tab.below {f : Nat → Nat → Int} {n m T : Nat} {blk : Nat → Nat} {w w' : World} (h : Tab f n m T blk w) (hb : Below w.heap.size w w') : Tab f n m T blk w' :=
  ⟨h.1.of_block (hb.block _ h.1.lt), fun r hr => (h.2 r hr).of_block (hb.block _ (World.rowIs.lt (h.2 r hr)))⟩
theorem Tab.drew {f : Nat → Nat → Int} {n m T : Nat} {blk : Nat → Nat} {w : World} (h : Tab f n m T blk w) : Tab f n m T blk w.drew := h

end Go.Proofs.Ytejpbjglfjhjkaa
