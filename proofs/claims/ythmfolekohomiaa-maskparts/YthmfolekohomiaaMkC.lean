/-
  Bits of all masks together, counted, plain.
-/
import Derived.Test.YthmfolekohomiaaMkP
import Derived.Test.YthmfolekohomiaaVp9
namespace Go.Proofs.Ythmfolekohomiaa

/-- Index j of b holds one of L. -/
def inS (b L : List Int) (j : Nat) : Bool := match b[j]? with | some x => decide (x ∈ L) | none => false
theorem inS_none (b : List Int) (j : Nat) : inS b [] j = false := by
  unfold inS
  cases b[j]? <;> simp
theorem inS_snoc (b L : List Int) (x : Int) (j : Nat) : inS b (L ++ [x]) j = (inS b L j || decide (b[j]? = some x)) := by
  unfold inS
  cases h : b[j]? with
  | none => simp
  | some y => simp [Bool.decide_or]
theorem inS_apart {b L : List Int} {x : Int} (hx : x ∉ L) (j : Nat) (h : decide (b[j]? = some x) = true) : inS b L j = false := by
  rw [decide_eq_true_eq] at h
  unfold inS
  rw [h]
  simpa using hx
theorem inS_all {b : List Int} {j : Nat} (hj : j < b.length) : inS b (symU b) j = true := by
  unfold inS
  rw [List.getElem?_eq_getElem hj]
  simp [symU_mem]
theorem inS_out {b L : List Int} {j : Nat} (hj : ¬ j < b.length) : inS b L j = false := by
  unfold inS
  rw [List.getElem?_eq_none (by omega)]
theorem cnt_or {f g : Nat → Bool} (h : ∀ j, g j = true → f j = false) : ∀ n, cnt (fun j => f j || g j) n = cnt f n + cnt g n
  | 0 => rfl
  | n + 1 => by
    have := cnt_or h n
    have hn := h n
    simp only [cnt, this]
    by_cases hg : g n = true
    · simp [hn hg, hg]
      omega
    · rw [Bool.not_eq_true] at hg
      simp [hg]
      omega
theorem cnt_all {f : Nat → Bool} : ∀ n, (∀ j, j < n → f j = true) → cnt f n = n
  | 0, _ => rfl
  | n + 1, h => by
    have := cnt_all (f := f) n (fun j hj => h j (by omega))
    simp [cnt, this, h n (by omega)]
theorem up_notin {s : List Int} (h : s.Pairwise (· < ·)) {i : Nat} {x : Int} (hx : s[i]? = some x) : x ∉ s.take i := by
  intro hm
  obtain ⟨j, hj, e⟩ := List.mem_iff_getElem.1 hm
  rw [List.length_take] at hj
  rw [List.getElem_take] at e
  obtain ⟨hi, e'⟩ := List.getElem?_eq_some_iff.1 hx
  have := List.pairwise_iff_getElem.1 h j i (by omega) hi (by omega)
  omega
theorem up_prev {s : List Int} (h : s.Pairwise (· < ·)) {i : Nat} {x y : Int} (hx : s[i + 1]? = some x) (hy : s[i]? = some y) : y < x := by
  obtain ⟨hi, e⟩ := List.getElem?_eq_some_iff.1 hx
  obtain ⟨hj, e'⟩ := List.getElem?_eq_some_iff.1 hy
  have := List.pairwise_iff_getElem.1 h i (i + 1) hj hi (by omega)
  omega

end Go.Proofs.Ythmfolekohomiaa
