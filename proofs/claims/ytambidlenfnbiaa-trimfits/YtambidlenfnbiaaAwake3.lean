/-
  What the document tells of chapter 3 holds: awake returns true.
-/
import Derived.Test.YtambidlenfnbiaaTr3
import Derived.Test.YtambidlenfnbiaaGr2
namespace Go.Proofs.Ytambidlenfnbiaa
open Go.RowKit

theorem i64_small {n : Int} (h : -1000000000 ≤ n ∧ n ≤ 1000000000) : I64 n := ⟨by omega, by omega⟩
theorem Yes.of {w w' : World} (h : Below w.heap.size w w') : Yes w (.returned (.bool true)) w' := ⟨rfl, h⟩

theorem Row.drawn {w w' : World} {A : Option Addr} {us : List Value} {q : Nat} (hq : w' = w.drewN q) (h : Row w A us) : Row w' A us := by subst hq; exact h
theorem below_drawn {w0 w w' : World} {B q : Nat} (hq : w' = w.drewN q) (h : Below B w0 w) : Below B w0 w' := by subst hq; exact below_drewN h q

set_option maxHeartbeats 1600000 in
theorem awake_yes (w : World) : Calls Try.prog 11 #[] w (Yes w) := by
  go_enter Try.func11, Try.ntmps11
  go_wp2_with fail
  refine (of_any _ _ 4 5 4 5 [1, 2, 3, 9] [1, 2, 5, 6, 9] _ rfl rfl (by decide) (by decide) (by decide) (by decide) ((row_lit0 w (iv [1, 2, 3, 9]) 3).alloc _) (row_lit1 w _ (iv [1, 2, 5, 6, 9]) 3)).mono ?_
  rintro e w1 ⟨rfl, q, hw1⟩
  have hb1 : Below w.heap.size w w1 := hw1 ▸ below_drewN (below_alloc2 w _ _) q
  clear hw1
  rw [show pe [1, 2, 3, 9] [1, 2, 5, 6, 9] = 2 by decide, show se [1, 2, 3, 9] [1, 2, 5, 6, 9] = 1 by decide]
  go_wp2_with fail
  refine (mid_any _ _ 4 5 4 5 [1, 2, 3, 9] [1, 2, 5, 6, 9] _ rfl rfl (by decide) (by decide) (by decide) (by decide) ((row_lit0 w1 (iv [1, 2, 3, 9]) 3).alloc _) (row_lit1 w1 _ (iv [1, 2, 5, 6, 9]) 3)).mono ?_
  rintro e w2 ⟨x, y, rfl, hx, hy, hb2⟩
  have hbw2 : Below w.heap.size w w2 := hb1.trans (((below_alloc2 w1 _ _).trans (hb2.mono (below_alloc2 w1 _ _).size)).mono hb1.size)
  rw [show mid [1, 2, 3, 9] (pe [1, 2, 3, 9] [1, 2, 5, 6, 9]) (se [1, 2, 3, 9] [1, 2, 5, 6, 9]) = [3] by decide] at hx
  rw [show mid [1, 2, 5, 6, 9] (pe [1, 2, 3, 9] [1, 2, 5, 6, 9]) (se [1, 2, 3, 9] [1, 2, 5, 6, 9]) = [5, 6] by decide] at hy
  obtain ⟨X, cX, rfl, _, _, _, _⟩ := own_slice hx
  obtain ⟨Y, cY, rfl, _, _, _, _⟩ := own_slice hy
  clear hx hy hb2 hb1
  go_wp2_with fail
  refine (grow_any _ 1 1 [(0, 1)] 1 1 3 4 _ rfl (by decide) (i64_small (by decide)) (i64_small (by decide)) (i64_small (by decide)) (i64_small (by decide)) (row_lit0 w2 (pv [(0, 1)]) 30)).mono ?_
  rintro e w3 ⟨v, rfl, hv, hb3⟩
  have hbw3 : Below w.heap.size w w3 := hbw2.trans (Below.mono ((Below.alloc (Below.refl _ w2) (Nat.le_refl _) _).trans (hb3.mono (by simp))) hbw2.size)
  rw [show growE [(0, 1)] 1 1 3 4 = 0 by decide]
  rw [show grownU [(0, 1)] 1 1 3 4 = [(0, 0), (1, 2), (2, 3)] by decide] at hv
  obtain ⟨V, cV, rfl, hcV, _, hV, _⟩ := own_sliceS hv
  obtain ⟨g, o, rfl, c1, c2⟩ := hV.pair (k := 1) (by decide)
  have c1' : w3.cell? ⟨g, o + 2, none⟩ = some (.int .i64 1) := c1
  have c2' : w3.cell? ⟨g, o + 2 + 1, none⟩ = some (.int .i64 2) := c2
  clear c1 c2 hV hv hb3 hbw2
  go_wp2_with fail
  go_ret
  exact Yes.of hbw3

end Go.Proofs.Ytambidlenfnbiaa
