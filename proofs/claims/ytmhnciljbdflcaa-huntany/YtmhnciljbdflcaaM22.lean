/-
  Words and contracts that the proof leans on.
-/
import Derived.Test.YtmhnciljbdflcaaM12
import Derived.Test.YtmhnciljbdflcaaM19
namespace Go.Proofs.Ytmhnciljbdflcaa

theorem cnt_at {t : List Int} (h : Asc t) {k : Nat} {j : Int} (hk : t[k]? = some j) : cntL t j = k := by
  have hkl := (List.getElem?_eq_some_iff.1 hk).1
  have a1 := asc_at h j k j hk
  rcases Nat.lt_trichotomy (cntL t j) k with g | g | g
  · exfalso
    have hx : t[cntL t j]? = some (t[cntL t j]'(by omega)) := List.getElem?_eq_getElem _
    have a2 := asc_at h j _ _ hx
    have hj : t[k] = j := (List.getElem?_eq_some_iff.1 hk).2
    have : t[cntL t j]'(by omega) < t[k] := List.pairwise_iff_getElem.1 h _ _ _ _ g
    rw [hj] at this
    have := a2.1 this
    omega
  · exact g
  · exfalso
    have := a1.2 g
    omega
/-- Where a threshold stands. -/
theorem thr_at {F : Nat → Nat} (h0 : F 0 = 0) (h : ∀ j, F j ≤ F (j + 1) ∧ F (j + 1) ≤ F j + 1) {m k : Nat} {z : Int} (hk : (thrL F m)[k]? = some z) : ∃ j : Nat, z = (j : Int) ∧ j < m ∧ F j = k ∧ F (j + 1) = k + 1 := by
  have hm := List.mem_of_getElem? hk
  obtain ⟨g1, g2⟩ := thr_lt hm
  obtain ⟨j, rfl⟩ := Int.eq_ofNat_of_zero_le g1
  have e := cnt_at (asc_thr F m) hk
  rw [cnt_thr h0 h m j (by omega)] at e
  unfold thrL at hm
  obtain ⟨i, hi, ei⟩ := List.mem_map.1 hm
  obtain rfl : i = j := by omega
  have h3 : F i < F (i + 1) := by simpa using (List.mem_filter.1 hi).2
  have := (h i).2
  exact ⟨i, rfl, by omega, e, by omega⟩
theorem alike_cons (x : Int) (a b : List Int) : alike (x :: a) b = b.count x + alike a b := by
  unfold alike
  rw [List.map_cons, List.sum_cons]
theorem alike_prod (a b : List Int) : alike a b ≤ a.length * b.length := by
  have := alike_le a b b.length (Nat.le_refl _) a.length
  rw [List.take_length] at this
  exact this
theorem lcs_alike : ∀ (a b : List Int), lcs a b ≤ alike a b
  | [], b => by rw [lcs_nil_left]; omega
  | x :: a, b => by
    have ih := lcs_alike a b
    rw [alike_cons]
    obtain ⟨z, h1, h2, h3⟩ := lcs_has (x :: a) b
    by_cases hx : x ∈ b
    · have hc : 0 < b.count x := List.count_pos_iff.2 hx
      have := (lcs_grow_front a b x)
      have h4 : lcs (x :: a) b ≤ lcs a b + 1 := this.2.1
      omega
    · have h4 : z.Sublist a := by
        cases h1 with
        | cons _ h => exact h
        | cons_cons _ h => exact absurd (h2.subset (by simp)) hx
      have := lcs_top h4 h2
      omega

end Go.Proofs.Ytmhnciljbdflcaa
