/-
  Chapter 6: awake, and words for the statements.
-/
import Derived.Test.YthmfolekohomiaaMk5
import Derived.Test.YthmfolekohomiaaMk7
import Derived.Test.YthmfolekohomiaaVp6
import Derived.Test.YthmfolekohomiaaVp9
namespace Go.Proofs.Ythmfolekohomiaa
open Go.RowKit

theorem Msk.ptr {lo hi : Nat} {b : List Int} {w : World} {v : Value} (h : Msk lo hi b w v) : ∃ p, v = .pointer (some ⟨p, 0, none⟩) := by
  obtain ⟨p, _, _, _, e, _⟩ := h
  exact ⟨p, e⟩
theorem Msk.drew {lo hi : Nat} {b : List Int} {w : World} {v : Value} (h : Msk lo hi b w v) : Msk lo hi b w.drew v := h.keep fun _ _ _ => rfl
/-- New words, opened. -/
theorem MadeV.out {W : Nat} {b : Nat → Bool} {w w' : World} {e : Ending} (h : MadeV W b w e w') : ∃ A c x, e = .returned (.slice A W c) ∧ x.length = W ∧ W ≤ c ∧ c ≤ maxLen ∧ Wd x ∧ (∀ j, bt x j = (decide (j < 64 * W) && b j)) ∧ Row w' A (uv x) ∧ w'.ownsRow w.heap.size 28 1 (.slice A W c) W (uv x) ∧ Below w.heap.size w w' := by
  obtain ⟨v, x, rfl, hx, wx, bx, own, hb⟩ := h
  rw [hx] at own
  obtain ⟨A, c, rfl, h1, h2, hr, _⟩ := own_slice own
  exact ⟨A, c, x, rfl, hx, h1, h2, wx, bx, hr, own, hb⟩
/-- New numbers, opened. -/
theorem MadeI.out {l : List Int} {w w' : World} {e : Ending} (h : MadeI l w e w') : ∃ A c, e = .returned (.slice A l.length c) ∧ l.length ≤ c ∧ c ≤ maxLen ∧ Row w' A (iv l) ∧ w'.ownsRow w.heap.size 3 1 (.slice A l.length c) l.length (iv l) ∧ Below w.heap.size w w' := by
  obtain ⟨v, rfl, own, hb⟩ := h
  obtain ⟨A, c, rfl, h1, h2, hr, _⟩ := own_slice own
  exact ⟨A, c, rfl, h1, h2, hr, own, hb⟩
theorem sameW_yes (A A' : Option Addr) (n c c' : Nat) (x : List Nat) (w : World) (hn : x.length = n) (hb : n ≤ 9223372036854775807) (hr : Row w A (uv x)) (hr' : Row w A' (uv x)) :
    Calls Try.prog 13 #[.slice A n c, .slice A' n c'] w fun e w' => e = .returned (.bool true) ∧ ∃ q, w' = w.drewN q := by
  have := sameW_any A A' n n c c' x x w hn hn hb hr hr'
  rwa [decide_eq_true rfl] at this
theorem sameI_yes (A A' : Option Addr) (n c c' : Nat) (x : List Int) (w : World) (hn : x.length = n) (hb : n ≤ 9223372036854775807) (hr : Row w A (iv x)) (hr' : Row w A' (iv x)) :
    Calls Try.prog 16 #[.slice A n c, .slice A' n c'] w fun e w' => e = .returned (.bool true) ∧ ∃ q, w' = w.drewN q := by
  have := sameInts_any A A' n n c c' x x w hn hn hb hr hr'
  rwa [decide_eq_true rfl] at this

theorem wds3 : wds (([7, 5, 7] : List Int).length : Nat) = 1 := by decide
theorem bits7 : ∀ j, j < 64 * 1 → decide (([7, 5, 7] : List Int)[j]? = some 7) = bt [5] j := by decide +kernel
theorem sym7 : symU [7, 5, 7] = [5, 7] := by decide

set_option maxRecDepth 100000 in
set_option maxHeartbeats 1600000 in
theorem awake6 (w : World) : Calls Try.prog 8 #[] w (Yes w) := by
  go_enter Try.func8, Try.ntmps8
  go_wp2_with fail
  have r0 : Row (w.alloc (.cells #[.int .i64 7, .int .i64 5, .int .i64 7] 3)) (some ⟨w.heap.size, 0, none⟩) (iv [7, 5, 7]) := row_lit0 w _ _
  have b0 := below_a1 w (.cells #[.int .i64 7, .int .i64 5, .int .i64 7] 3)
  generalize w.alloc (.cells #[.int .i64 7, .int .i64 5, .int .i64 7] 3) = w0 at *
  refine (new_any (some ⟨w.heap.size, 0, none⟩) 3 3 [7, 5, 7] w0 rfl (by omega) r0 (by decide)).mono ?_
  rintro e w1 ⟨v, rfl, hm, hb1⟩
  have bb1 := below_go b0 hb1
  clear r0 b0 hb1
  obtain ⟨p, rfl⟩ := hm.ptr
  go_wp2_with fail
  refine (of_any _ _ [7, 5, 7] _ 7 w1 (by decide) (Nat.le_refl _) hm (by decide)).mono ?_
  intro e w2 h2
  rw [wds3] at h2
  obtain ⟨A, c, x, rfl, hx, hc, hcm, wx, bx, hr, _, hb2⟩ := h2.out
  have ex := made_is [5] hx wx bx rfl (by intro u hu; simp at hu; subst hu; decide) bits7
  subst ex
  obtain ⟨g, o, rfl, hw0⟩ := hr.word (k := 0) (by decide)
  have hm2 := hm.below (Nat.le_refl _) hb2
  have hs2 := hb2.size
  have bb2 := below_go bb1 hb2
  clear h2 hm bb1 hb2 hr bx wx hx
  simp only [List.getElem_cons_zero, Nat.add_zero] at hw0
  go_wp2_with fail
  refine (len_any _ _ [7, 5, 7] _ w2 hm2).mono ?_
  rintro e w3 ⟨rfl, e3⟩
  subst e3
  go_wp2_with fail
  refine (mwords_any _ _ [7, 5, 7] _ w2 hm2).mono ?_
  rintro e w3 ⟨rfl, e3⟩
  subst e3
  rw [wds3]
  go_wp2_with fail
  refine (symbols_any _ _ [7, 5, 7] _ w2 (by decide) hm2).mono ?_
  intro e w3 h3
  rw [sym7] at h3
  obtain ⟨A3, c3, rfl, _, _, _, _, hb3⟩ := h3.out
  have HY := Lib.hid (Yes.of (below_go bb2 hb3))
  clear h3 hm2 bb2 hb3
  go_wp2_with fail
  go_ret
  exact HY.out

end Go.Proofs.Ythmfolekohomiaa
