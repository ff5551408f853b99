/-
  A store into a row of the call's own, whatever cells an element has.
-/
import Derived.Test.YtnocjkpjihpphaaPairK
namespace Go.Proofs.Ytnocjkpjihpphaa
open Go.RowKit

theorem own_setS {w : World} {B n sz g c : Nat} {e : TypeId} {us : List Value} (h : w.ownsRow B e sz (.slice (some ⟨g, 0, none⟩) n c) n us) (i : Nat) (x : Value) : (w.setCell ⟨g, i, none⟩ x).ownsRow B e sz (.slice (some ⟨g, 0, none⟩) n c) n (us.set i x) := by
  obtain ⟨hl, h2⟩ := h
  refine ⟨by simpa using hl, .inr ?_⟩
  rcases h2 with ⟨hv, _⟩ | ⟨g', cap, cur, hv, hg, hh, h3, h4, h5, h6⟩
  · cases hv
  · have e1 : g = g' := by injection hv with h; injection h with h; injection h
    have e2 : c = cap := by injection hv
    subst e1
    subst e2
    refine ⟨g, c, cur.setIfInBounds i x, rfl, hg, heap_setCell_same w g i cur e x hh, h3, h4, by simpa using h5, ?_⟩
    rw [Array.toList_setIfInBounds, List.take_set, h6]
theorem grown_setS {w w1 : World} {b : Option Nat} {g i : Nat} {x : Value} (h : w.grownBy w1 b) (hg : some g = b ∨ w.heap.size ≤ g) : w.grownBy (w1.setCell ⟨g, i, none⟩ x) b := by
  refine ⟨h.os, h.tape, h.output, by simpa using h.size, fun k hk hne => ?_⟩
  rw [heap_setCell_other _ _ _ _ (fun e => ?_)]
  · exact h.block k hk hne
  · simp only at e
    subst e
    rcases hg with hg | hg
    · exact hne hg
    · omega
theorem own_posS {w : World} {B n sz : Nat} {e : TypeId} {v : Value} {us : List Value} (h : w.ownsRow B e sz v n us) (hn : 0 < n) : ∃ g c, v = .slice (some ⟨g, 0, none⟩) n c ∧ (∀ i, w.frozen? ⟨g, i, none⟩ = false) ∧ B ≤ g ∧ g < w.heap.size := by
  rcases h.2 with ⟨_, h0⟩ | ⟨g, cap, cur, hv, hg, hh, h3, h4, h5, h6⟩
  · omega
  · refine ⟨g, cap, hv, fun i => ?_, hg, (Array.getElem?_eq_some_iff.1 hh).1⟩
    simp [World.frozen?, hh]

/-- Pairs, all (0, 0), as make makes them. -/
theorem made_pairs (n : Nat) : (madeCells (Value.agg #[.int .i64 0, .int .i64 0]).cells (n * 2)).toList = pv (List.replicate n (0, 0)) := by
  have h1 : (madeCells (Value.agg #[.int .i64 0, .int .i64 0]).cells (n * 2)).toList = List.replicate (n * 2) (.int .i64 0) := by
    refine List.eq_replicate_iff.2 ⟨by simp [size_madeCells], fun b hb => ?_⟩
    have e : (Value.agg #[.int .i64 0, .int .i64 0]).cells = #[.int .i64 0, .int .i64 0] := by rfl
    rw [e] at hb
    simp only [madeCells, Array.toList_map, List.mem_map, Array.mem_toList_iff] at hb
    obtain ⟨j, _, rfl⟩ := hb
    have : j % 2 = 0 ∨ j % 2 = 1 := by omega
    rcases this with h | h <;> simp [h]
  have h2 : pv (List.replicate n (0, 0)) = List.replicate (n * 2) (.int .i64 0) := by
    refine List.eq_replicate_iff.2 ⟨by rw [pv_length]; simp, fun b hb => ?_⟩
    simp only [pv, List.mem_flatMap] at hb
    obtain ⟨p, hp, hb⟩ := hb
    have := List.eq_of_mem_replicate hp
    subst this
    simpa using hb
  rw [h1, h2]
theorem pv_set2 (X Y : List Pr) (p : Pr) (a b : Int) : ((pv (X ++ p :: Y)).set (X.length * 2) (.int .i64 a)).set (X.length * 2 + 1) (.int .i64 b) = pv (X ++ (a, b) :: Y) := by
  rw [pv_append, pv_cons, List.set_append_right _ _ (by rw [pv_length]; omega), pv_length, List.set_append_right _ _ (by rw [pv_length]; omega), pv_length, pv_append, pv_cons]
  simp [show X.length * 2 + 1 - X.length * 2 = 1 by omega]

end Go.Proofs.Ytnocjkpjihpphaa
