/-
  Halves, plain: the list that they make, its steps; it is good, as long as may be; the steps are bounded.
-/
import Derived.Test.YtkiijldiofbflaaSh
import Derived.Test.YtkiijldiofbflaaRwP
namespace Go.Proofs.Ytkiijldiofbflaa

/-- Where the second list is parted when the first one is cut in half. -/
def hjo (a b : List Int) : Nat := (splitL (frontL (a.take (a.length / 2)) b) (backL (a.drop (a.length / 2)) b)).1
theorem hjo_meet {a b : List Int} (hn : a.length ≤ 1048576) : hjo a b ≤ b.length ∧ lcs (a.take (a.length / 2)) (b.take (hjo a b)) + lcs (a.drop (a.length / 2)) (b.drop (hjo a b)) = lcs a b := by
  obtain ⟨h1, _, h3⟩ := split_meet (a := a) (b := b) (i := a.length / 2) hn
  exact ⟨h1, h3⟩

/-- A part of one number. -/
def one1 (x : Int) (b : List Int) (i j : Int) : List Pr := match at1 x b with | none => [] | some k => [(i, j + (k : Int))]

/-- The list of a part whose places begin at i and j, and its steps. -/
def hv (a b : List Int) (i j : Int) : List Pr × Nat :=
  if a.length = 0 ∨ b.length = 0 then ([], 0)
  else if h : a.length = 1 then (one1 (a[0]'(by omega)) b i j, b.length)
  else
    let x := hv (a.take (a.length / 2)) (b.take (hjo a b)) i j
    let y := hv (a.drop (a.length / 2)) (b.drop (hjo a b)) (i + (a.length / 2 : Nat)) (j + (hjo a b : Nat))
    (x.1 ++ y.1, a.length * b.length + x.2 + y.2)
termination_by a.length
decreasing_by
  all_goals (simp only [List.length_take, List.length_drop]; omega)
theorem hv_none {a b : List Int} {i j : Int} (h : a.length = 0 ∨ b.length = 0) : hv a b i j = ([], 0) := by rw [hv, if_pos h]
theorem hv_one {x : Int} {b : List Int} {i j : Int} (h : b.length ≠ 0) : hv [x] b i j = (one1 x b i j, b.length) := by
  rw [hv, if_neg (by simp; intro e; simp [e] at h), dif_pos (show [x].length = 1 from rfl)]
  rfl
theorem hv_two {a b : List Int} {i j : Int} (h : 2 ≤ a.length) (hb : b.length ≠ 0) : hv a b i j = ((hv (a.take (a.length / 2)) (b.take (hjo a b)) i j).1 ++ (hv (a.drop (a.length / 2)) (b.drop (hjo a b)) (i + (a.length / 2 : Nat)) (j + (hjo a b : Nat))).1,
    a.length * b.length + (hv (a.take (a.length / 2)) (b.take (hjo a b)) i j).2 + (hv (a.drop (a.length / 2)) (b.drop (hjo a b)) (i + (a.length / 2 : Nat)) (j + (hjo a b : Nat))).2) := by
  rw [hv, if_neg (by omega), dif_neg (by omega)]

theorem one1_length (x : Int) (b : List Int) (i j : Int) : (one1 x b i j).length ≤ 1 := by
  unfold one1
  split <;> simp
theorem one1_is {x : Int} {b : List Int} {i j : Nat} {a : List Int} (ha : a = [x]) : ∃ l, one1 x b i j = sh i j l ∧ G a b l ∧ l.length = lcs a b := by
  subst ha
  unfold one1
  cases h : at1 x b with
  | none => exact ⟨[], rfl, trivial, by rw [lcs_no [] h, lcs_nil_left]; rfl⟩
  | some k =>
    refine ⟨[(0, (k : Int))], ?_, ⟨0, k, x, rfl, Nat.le_refl _, Nat.zero_le _, rfl, (at1_some h).1, trivial⟩, ?_⟩
    · simp only [sh, List.map_cons, List.map_nil, List.cons.injEq, Prod.mk.injEq, and_true]
      omega
    · rw [lcs_yes [] h, lcs_nil_left, lcs_nil_left]
      rfl

/-- The list is good, and as long as may be. -/
theorem hv_good : ∀ (N : Nat) (a b : List Int) (i j : Nat), a.length ≤ N → a.length ≤ 1048576 → ∃ l, (hv a b (i : Int) (j : Int)).1 = sh i j l ∧ G a b l ∧ l.length = lcs a b := by
  intro N
  induction N using Nat.strongRecOn with
  | ind N ih =>
  intro a b i j hN hn
  by_cases h0 : a.length = 0 ∨ b.length = 0
  · refine ⟨[], by rw [hv_none h0]; rfl, trivial, ?_⟩
    rcases h0 with h0 | h0
    · rw [List.eq_nil_of_length_eq_zero h0, lcs_nil_left]; rfl
    · rw [List.eq_nil_of_length_eq_zero h0, lcs_nil_right]; rfl
  by_cases h1 : a.length = 1
  · obtain ⟨x, rfl⟩ := List.length_eq_one_iff.1 h1
    rw [hv_one (by omega)]
    exact one1_is rfl
  · obtain ⟨m1, m2⟩ := hjo_meet (a := a) (b := b) hn
    rw [hv_two (by omega) (by omega)]
    generalize hjo a b = J at *
    generalize hh : a.length / 2 = h at *
    obtain ⟨l, e1, g1, n1⟩ := ih (N - 1) (by omega) (a.take h) (b.take J) i j (by rw [List.length_take]; omega) (by rw [List.length_take]; omega)
    obtain ⟨r, e2, g2, n2⟩ := ih (N - 1) (by omega) (a.drop h) (b.drop J) (i + h) (j + J) (by rw [List.length_drop]; omega) (by rw [List.length_drop]; omega)
    rw [Int.natCast_add, Int.natCast_add] at e2
    refine ⟨l ++ sh h J r, ?_, g_join g1 g2, ?_⟩
    · show _ ++ _ = _
      rw [e1, e2, sh_append, sh_sh]
    · rw [List.length_append, sh_length, n1, n2, m2]
theorem hv_is {a b : List Int} (hn : a.length ≤ 1048576) : goodB a b (hv a b 0 0).1 = true ∧ (hv a b 0 0).1.length = lcs a b := by
  obtain ⟨l, e, g, n⟩ := hv_good a.length a b 0 0 (Nat.le_refl _) hn
  rw [sh_zero] at e
  simp only [Int.natCast_zero] at e
  rw [e]
  exact ⟨good_iff.2 g, n⟩
theorem hv_len {a b : List Int} {i j : Nat} (hn : a.length ≤ 1048576) : (hv a b (i : Int) (j : Int)).1.length = lcs a b := by
  obtain ⟨l, e, g, n⟩ := hv_good a.length a b i j (Nat.le_refl _) hn
  rw [e, sh_length, n]

/-- How many binary digits. -/
def bl (n : Nat) : Nat := if n = 0 then 0 else n.log2 + 1
theorem bl_zero : bl 0 = 0 := rfl
theorem bl_pos {n : Nat} (h : n ≠ 0) : bl n = bl (n / 2) + 1 := by
  unfold bl
  rw [if_neg h]
  by_cases h1 : n / 2 = 0
  · rw [if_pos h1, Nat.log2_def, if_neg (by omega)]
  · rw [if_neg h1, Nat.log2_def, if_pos (by omega)]
theorem bl_256 {n : Nat} (h : 256 ≤ n) : bl n = 8 + bl (n / 256) := by
  rw [bl_pos (n := n) (by omega), bl_pos (n := n / 2) (by omega), bl_pos (n := n / 2 / 2) (by omega), bl_pos (n := n / 2 / 2 / 2) (by omega), bl_pos (n := n / 2 / 2 / 2 / 2) (by omega), bl_pos (n := n / 2 / 2 / 2 / 2 / 2) (by omega), bl_pos (n := n / 2 / 2 / 2 / 2 / 2 / 2) (by omega), bl_pos (n := n / 2 / 2 / 2 / 2 / 2 / 2 / 2) (by omega), show n / 2 / 2 / 2 / 2 / 2 / 2 / 2 / 2 = n / 256 by omega]
  omega
theorem bl_mono : ∀ (N n m : Nat), m ≤ N → n ≤ m → bl n ≤ bl m := by
  intro N
  induction N using Nat.strongRecOn with
  | ind N ih =>
  intro n m hm h
  by_cases h0 : n = 0
  · rw [h0, bl_zero]; exact Nat.zero_le _
  · rw [bl_pos h0, bl_pos (show m ≠ 0 by omega)]
    have := ih (m / 2) (by omega) (n / 2) (m / 2) (Nat.le_refl _) (by omega)
    omega
theorem bl_le {n k : Nat} (h : n < 2 ^ k) : bl n ≤ k := by
  induction k generalizing n with
  | zero => rw [show n = 0 by simpa using h, bl_zero]; exact Nat.zero_le _
  | succ k ih =>
    by_cases h0 : n = 0
    · rw [h0, bl_zero]; exact Nat.zero_le _
    · rw [bl_pos h0]
      have := ih (n := n / 2) (by rw [Nat.pow_succ] at h; omega)
      omega

/-- The steps are bounded. -/
def mst (n m : Nat) : Nat := m * (2 * n + bl n)
theorem hv_tight : ∀ (N : Nat) (a b : List Int) (i j : Int), a.length ≤ N → a.length ≤ 1048576 → 1 ≤ a.length → (hv a b i j).2 ≤ b.length * (2 * a.length - 1 + bl (a.length - 1)) := by
  intro N
  induction N using Nat.strongRecOn with
  | ind N ih =>
  intro a b i j hN hn h1
  by_cases h0 : b.length = 0
  · rw [hv_none (.inr h0)]; exact Nat.zero_le _
  by_cases h2 : a.length = 1
  · obtain ⟨x, rfl⟩ := List.length_eq_one_iff.1 h2
    rw [hv_one h0]
    show b.length ≤ b.length * (2 * 1 - 1 + bl (1 - 1))
    rw [show 1 - 1 = 0 from rfl, bl_zero]
    omega
  · obtain ⟨m1, _⟩ := hjo_meet (a := a) (b := b) hn
    rw [hv_two (by omega) h0]
    generalize hjo a b = J at *
    generalize hh : a.length / 2 = h at *
    have g1 := ih (N - 1) (by omega) (a.take h) (b.take J) i j (by rw [List.length_take]; omega) (by rw [List.length_take]; omega) (by rw [List.length_take]; omega)
    have g2 := ih (N - 1) (by omega) (a.drop h) (b.drop J) (i + (h : Nat)) (j + (J : Nat)) (by rw [List.length_drop]; omega) (by rw [List.length_drop]; omega) (by rw [List.length_drop]; omega)
    rw [List.length_take, List.length_take, Nat.min_eq_left (by omega), Nat.min_eq_left (by omega)] at g1
    rw [List.length_drop, List.length_drop] at g2
    show _ + _ + _ ≤ _
    generalize (hv (a.take h) (b.take J) i j).2 = S1 at *
    generalize (hv (a.drop h) (b.drop J) (i + (h : Nat)) (j + (J : Nat))).2 = S2 at *
    generalize a.length = n at *
    generalize b.length = m at *
    have k1 : 2 * h - 1 + bl (h - 1) ≤ n - 1 + bl (n - 1) := by
      have := bl_mono (n - 1) (h - 1) (n - 1) (Nat.le_refl _) (by omega)
      omega
    have k2 : 2 * (n - h) - 1 + bl (n - h - 1) ≤ n - 1 + bl (n - 1) := by
      have e := bl_pos (show n - 1 ≠ 0 by omega)
      have := bl_mono ((n - 1) / 2) (n - h - 1) ((n - 1) / 2) (Nat.le_refl _) (by omega)
      omega
    have k3 : J * (2 * h - 1 + bl (h - 1)) ≤ J * (n - 1 + bl (n - 1)) := Nat.mul_le_mul_left _ k1
    have k4 : (m - J) * (2 * (n - h) - 1 + bl (n - h - 1)) ≤ (m - J) * (n - 1 + bl (n - 1)) := Nat.mul_le_mul_left _ k2
    have k5 : J * (n - 1 + bl (n - 1)) + (m - J) * (n - 1 + bl (n - 1)) = m * (n - 1 + bl (n - 1)) := by rw [← Nat.add_mul]; congr 1; omega
    have k6 : m * (2 * n - 1 + bl (n - 1)) = n * m + m * (n - 1 + bl (n - 1)) := by rw [Nat.mul_comm n m, ← Nat.mul_add]; congr 1; omega
    omega
theorem hv_steps {a b : List Int} (i j : Int) (hn : a.length ≤ 1048576) : (hv a b i j).2 ≤ mst a.length b.length := by
  by_cases h0 : a.length = 0
  · rw [hv_none (.inl h0)]; exact Nat.zero_le _
  · refine Nat.le_trans (hv_tight a.length a b i j (Nat.le_refl _) hn (by omega)) (Nat.mul_le_mul_left _ ?_)
    have := bl_mono a.length (a.length - 1) a.length (Nat.le_refl _) (by omega)
    omega
theorem hv_least (a b : List Int) (i j : Int) : a.length * b.length ≤ (hv a b i j).2 := by
  by_cases h0 : a.length = 0 ∨ b.length = 0
  · rcases h0 with h0 | h0 <;> rw [h0] <;> simp
  by_cases h2 : a.length = 1
  · obtain ⟨x, rfl⟩ := List.length_eq_one_iff.1 h2
    rw [hv_one (by omega)]
    simp
  · rw [hv_two (by omega) (by omega)]
    show _ ≤ _ + _ + _
    omega
theorem mst_le {n m : Nat} (hn : n ≤ 1048576) (hm : m ≤ 1048576) : mst n m ≤ 1048576 * 2097173 := by
  have h1 : bl n ≤ 21 := bl_le (Nat.lt_of_le_of_lt hn (by decide))
  exact Nat.mul_le_mul hm (by omega)

end Go.Proofs.Ytkiijldiofbflaa
