/-
  What the document tells of chapter 2 holds: awake returns true.
-/
import Derived.Test.YtjfiokcgmmmboaaNm9
import Derived.Test.YtjfiokcgmmmboaaLits
namespace Go.Proofs.Ytjfiokcgmmmboaa
open Go.RowKit

set_option maxHeartbeats 1600000 in
theorem awake_yes (w : World) : Calls Try.prog 13 #[] w (Yes w) := by
  have k0 := @lit0
  have k1 := @lit1
  have k3 := @lit3
  have k4 := @lit4
  go_enter Try.func13, Try.ntmps13
  go_wp2_with fail
  generalize hW : World.alloc _ _ = W
  have hb0 : Below w.heap.size w W := by rw [← hW]; exact ((((((Below.refl _ w).alloc (Nat.le_refl _) _).alloc (by simp) _).alloc (by simp; omega) _).alloc (by simp; omega) _).alloc (by simp; omega) _).alloc (by simp; omega) _
  have r0 : Row W (some ⟨w.heap.size, 0, none⟩) (bv [98]) := row_in (mk := (1, 2)) (t := 5) (by rw [← hW]; exact (blk_old (blk_old (blk_old (blk_old (blk_old (blk_new _ _ _ (by simp)) _) _) _) _) _))
  have r1 : Row W (some ⟨w.heap.size + 1, 0, none⟩) (bv [97]) := row_in (mk := (1, 2)) (t := 5) (by rw [← hW]; exact (blk_old (blk_old (blk_old (blk_old (blk_new _ _ _ (by simp)) _) _) _) _))
  have r3 : Row W (some ⟨w.heap.size + 3, 0, none⟩) (bv [99]) := row_in (mk := (1, 2)) (t := 5) (by rw [← hW]; exact (blk_old (blk_old (blk_new _ _ _ (by simp)) _) _))
  have r4 : Row W (some ⟨w.heap.size + 4, 0, none⟩) (bv [98]) := row_in (mk := (1, 2)) (t := 5) (by rw [← hW]; exact (blk_old (blk_new _ _ _ (by simp)) _))
  have rA : Row W (some ⟨w.heap.size + 1 + 1, 0, none⟩) [.slice (some ⟨w.heap.size, 0, none⟩) 1 1, .slice (some ⟨w.heap.size + 1, 0, none⟩) 1 1] := row_in (mk := (0, 0)) (t := 24) (by rw [← hW]; exact (blk_old (blk_old (blk_old (blk_new _ _ _ (by simp)) _) _) _))
  have rB : Row W (some ⟨w.heap.size + 1 + 1 + 1 + 1 + 1, 0, none⟩) [.slice (some ⟨w.heap.size + 3, 0, none⟩) 1 1, .slice (some ⟨w.heap.size + 4, 0, none⟩) 1 1] := row_in (mk := (0, 0)) (t := 24) (by rw [← hW]; exact (blk_new _ _ _ (by simp)))
  have bA : BSs W [.slice (some ⟨w.heap.size, 0, none⟩) 1 1, .slice (some ⟨w.heap.size + 1, 0, none⟩) 1 1] [[98], [97]] := ((BSs.nil W).snoc (bs_lit 1 r0)).snoc (bs_lit 1 r1)
  have bB : BSs W [.slice (some ⟨w.heap.size + 3, 0, none⟩) 1 1, .slice (some ⟨w.heap.size + 4, 0, none⟩) 1 1] [[99], [98]] := ((BSs.nil W).snoc (bs_lit 1 r3)).snoc (bs_lit 1 r4)
  clear hW k0 k1 k3 k4 r0 r1 r3 r4
  refine (nmTwo_any _ _ 2 2 2 2 _ _ [[98], [97]] [[99], [98]] W rfl rfl (by decide) (by decide) rA bA (fun h => by cases h) rB bB (fun h => by cases h)).mono ?_
  rintro e w1 ⟨x, y, rfl, hx, hy, hb1⟩
  have e1 : sortU ([[98], [97]] ++ [[99], [98]]) = [[97], [98], [99]] := by decide
  rw [e1] at hx hy ⊢
  have e2 : idsOf [[97], [98], [99]] [[98], [97]] = [1, 0] := by decide
  have e3 : idsOf [[97], [98], [99]] [[99], [98]] = [2, 1] := by decide
  rw [e2] at hx
  rw [e3] at hy
  have e4 : ((([[97], [98], [99]] : List Bs).length : Nat) : Int) = 3 := by decide
  rw [e4]
  clear e1 e2 e3 e4 rA rB bA bB
  have hbw1 := hb0.trans (hb1.mono hb0.size)
  obtain ⟨X, cX, rfl, _, _, hX, _⟩ := own_slice hx
  obtain ⟨Y, cY, rfl, _, _, hY, _⟩ := own_slice hy
  clear hx hy hb1 hb0
  go_wp2_with fail
  refine (sameInts_any X _ 2 2 cX 2 [1, 0] [1, 0] _ rfl rfl (by decide) (hX.alloc _) (Row.new _ _ _ _)).mono ?_
  rintro e w2 ⟨rfl, q, hw2⟩
  have hb2 : Below w1.heap.size w1 w2 := hw2 ▸ below_drewN ((Below.refl _ w1).alloc (Nat.le_refl _) _) q
  have hY2 := hY.below hb2
  have hbw2 := hbw1.trans (hb2.mono hbw1.size)
  clear hw2 hb2 hX hY hbw1
  rw [show decide (([1, 0] : List Int) = [1, 0]) = true by decide]
  go_wp2_with fail
  refine (sameInts_any Y _ 2 2 cY 2 [2, 1] [2, 1] _ rfl rfl (by decide) (hY2.alloc _) (Row.new _ _ _ _)).mono ?_
  rintro e w3 ⟨rfl, q, hw3⟩
  have hb3 : Below w2.heap.size w2 w3 := hw3 ▸ below_drewN ((Below.refl _ w2).alloc (Nat.le_refl _) _) q
  have hbw3 := hbw2.trans (hb3.mono hbw2.size)
  clear hw3 hb3 hY2 hbw2
  rw [show decide (([2, 1] : List Int) = [2, 1]) = true by decide]
  go_wp2_with fail
  go_ret
  exact ⟨rfl, hbw3⟩

end Go.Proofs.Ytjfiokcgmmmboaa
