/-
  Words for the statements of stage 15.
-/
import Derived.Test.YtnocjkpjihpphaaTh2
import Derived.Test.YtnocjkpjihpphaaTh4
import Derived.Test.YtnocjkpjihpphaaFew
import Derived.Test.YtnocjkpjihpphaaPlc
import Derived.Test.YtnocjkpjihpphaaBh2
namespace Go.Proofs.Ytnocjkpjihpphaa
open Go.RowKit

theorem asc_of {t : List Int} (h : decide (t.Pairwise (· < ·)) = true) : Asc t := by unfold Asc; exact of_decide_eq_true h
theorem put_get (t : List Int) (j : Int) : (putT t j)[cntL t j]? = some j := by
  have := cnt_le t j
  unfold putT
  split
  · rename_i h
    rw [h, List.getElem?_append_right (Nat.le_refl _), Nat.sub_self]
    rfl
  · rw [List.getElem?_set_self (by omega)]
theorem put_len (t : List Int) (j : Int) : cntL t j < (putT t j).length := (List.getElem?_eq_some_iff.1 (put_get t j)).1
theorem put_other (t : List Int) (j : Int) {i : Nat} (hi : i < t.length) (h : i ≠ cntL t j) : (putT t j)[i]? = t[i]? := by
  unfold putT
  split
  · rw [List.getElem?_append_left hi]
  · rw [List.getElem?_set_ne (Ne.symm h)]
theorem put_under {t : List Int} (hs : Asc t) {j y : Int} (h : t[cntL t j]? = some y) : j ≤ y := by
  have := asc_at hs j _ y h
  omega
theorem plc_plcR (b : List Int) (k : Nat) : plc b k = plcR (k : Int) b := rfl
theorem few_all (l : List Int) : ∀ (i : Nat) z, (few 4 l)[i]? = some z → 0 ≤ z ∧ z < 4 := by
  intro i z h
  unfold few at h
  rw [List.getElem?_map] at h
  cases e : l[i]? with
  | none => rw [e] at h; cases h
  | some y =>
    rw [e] at h
    simp only [Option.map_some, Option.some.injEq] at h
    subst h
    omega
theorem few_fits (l : List Int) : fitsN 4 (few 4 l) = true := by
  unfold fitsN allN few
  simp
  intro x _
  omega
/-- A number's places, in memory. -/
theorem places_cell {w : World} {A : Option Addr} {vs : List Value} {y : List Int} (hr : Row w A vs) (h : ISs w vs (placesU 4 y)) (hf : fitsN 4 y = true) {k : Nat} (hk : k < 4) :
    ∃ g o A' c', A = some ⟨g, o, none⟩ ∧ w.cell? ⟨g, o + k, none⟩ = some (.slice A' (plcR (k : Int) y).length c') ∧ (plcR (k : Int) y).length ≤ c' ∧ c' ≤ maxLen ∧ Row w A' (iv (plcR (k : Int) y)) ∧ (A' = none → c' = 0) := by
  have e : placesU 4 y = (List.range 4).map (plc y) := by simp [placesU, hf]
  rw [e] at h
  obtain ⟨g, o, A', c', h1, h2, h3, h4, h5, h6⟩ := ISs.cell hr h (k := k) (by simpa using hk)
  have e2 : ((List.range 4).map (plc y))[k]'(by simpa using hk) = plcR (k : Int) y := by simp [plc_plcR]
  rw [e2] at h2 h3 h5
  exact ⟨g, o, A', c', h1, h2, h3, h4, h5, h6⟩
theorem places_len {y : List Int} (hf : fitsN 4 y = true) : (placesU 4 y).length = 4 := by simp [placesU, hf]
theorem plcR_length (x : Int) (b : List Int) : (plcR x b).length ≤ b.length := by
  unfold plcR
  rw [List.length_map]
  refine Nat.le_trans (List.length_filter_le _ _) ?_
  simp
theorem px_take (a b : List Int) (r : Nat) : px (a.take r) b r = px a b r := by
  funext c
  unfold px
  rw [List.take_take, Nat.min_self]
theorem thr_none (a b : List Int) (m : Nat) : thrL (px a b 0) m = [] := by
  induction m with
  | zero => rfl
  | succ m ih =>
    rw [thr_succ, ih, px_zero_left, px_zero_left]
    rfl
theorem thr_lcs (a b : List Int) : (thrL (px a b a.length) b.length).length = lcs a b := by
  rw [thr_length (px_zero_right a b _) (fun j => px_h a b _ j), px_all]

end Go.Proofs.Ytnocjkpjihpphaa
