/-
  What the document tells of chapter 12 holds: awake returns true.
-/
import Derived.Test.YtakefhmahngdeaaDl4
import Derived.Test.YtakefhmahngdeaaRefB
import Derived.Test.YtakefhmahngdeaaKnK
namespace Go.Proofs.Ytakefhmahngdeaa
open Go.RowKit

instance (x : Int) : Decidable (I64 x) := by unfold I64; infer_instance
theorem of_known (A : Option Addr) (n c : Nat) (row : List Int) (D : List UInt8) (nD : Nat) (E : Int) (w : World) (hn : row.length = n) (hb : n ≤ 1048577) (hc : n ≤ c) (hv : ∀ x ∈ row, I64 x) (h : (stepsL row, errS row) = (D, E)) (hD : D.length = nD) (hr : Row w A (iv row)) :
    Calls Try.prog 10 #[.slice A n c] w fun e w' => ∃ v, e = .returned (.tuple #[v, .int .i64 E]) ∧ w'.ownsRow w.heap.size 5 1 v nD (bv D) ∧ Below w.heap.size w w' := by
  have C := of_any A n c row w hn hb hc hv hr
  unfold MadeD OwnB at C
  injection h with h1 h2
  rw [h1, h2, hD] at C
  exact C
theorem row_known (first : Int) (A : Option Addr) (n c : Nat) (d : List UInt8) (L : List Int) (nL : Nat) (w : World) (hn : d.length = n) (hb : n ≤ 1048576) (h : rowDL first d = L) (hL : L.length = nL) (hr : Row w A (bv d)) :
    Calls Try.prog 12 #[.int .i64 first, .slice A n c] w fun e w' => ∃ v, e = .returned v ∧ w'.ownsRow w.heap.size 3 1 v nL (iv L) ∧ Below w.heap.size w w' := by
  have C := prow_any first A n c d w hn hb hr
  unfold MadeI at C
  rw [h, hL] at C
  exact C
theorem key_known (A : Option Addr) (n c : Nat) (d : List UInt8) (at' t : Int) (K : Nat) (w : World) (hn : d.length = n) (hb : n ≤ 1048576) (hc : n ≤ c) (h1 : I64 at') (h2 : I64 t) (h : keyL d at' t = K) (hr : Row w A (bv d)) :
    Calls Try.prog 13 #[.slice A n c, .int .i64 at', .int .i64 t] w fun e w' => e = .returned (.int .i64 (K : Nat)) ∧ Below w.heap.size w w' := by
  refine (pkey_any A n c d at' t w hn hb hc h1 h2 hr).mono ?_
  rintro e w' ⟨rfl, rfl⟩
  exact ⟨by rw [h], Below.refl _ _⟩
theorem put_known (A : Option Addr) (n c : Nat) (d : List UInt8) (at' t key : Int) (L : List UInt8) (w : World) (hn : d.length = n) (hb : n ≤ 1048576) (h1 : I64 at') (h2 : I64 t) (h : putL d at' t key = L) (hr : Row w A (bv d)) :
    Calls Try.prog 15 #[.slice A n c, .int .i64 at', .int .i64 t, .int .i64 key] w fun e w' => ∃ v, e = .returned v ∧ w'.ownsRow w.heap.size 5 1 v n (bv L) ∧ Below w.heap.size w w' := by
  have C := pput_any A n c d at' t key w hn hb h1 h2 hr
  unfold MadeB OwnB at C
  rw [putL_length, hn, h] at C
  exact C
theorem sameB (A B : Option Addr) (n m c d : Nat) (l r : List UInt8) (w : World) (hn : l.length = n) (hm : r.length = m) (h1 : Row w A (bv l)) (h2 : Row w B (bv r)) :
    Calls Try.prog 14 #[.slice A n c, .slice B m d] w fun e w' => e = .returned (.bool (decide (l = r))) ∧ Below w.heap.size w w' := by
  refine (refSame_any A B n m c d l r w hn hm h1 h2).mono ?_
  rintro e w' ⟨rfl, rfl⟩
  exact ⟨rfl, Below.refl _ _⟩

set_option maxRecDepth 100000 in
set_option maxHeartbeats 1600000 in
theorem awake12 (w : World) : Calls Try.prog 9 #[] w (Yes w) := by
  go_enter Try.func9, Try.ntmps9
  go_wp2_with fail
  refine (of_known _ 3 3 [3, 3, 4] [0, 1] 2 0 _ rfl (by decide) (Nat.le_refl _) (by decide +kernel) (by decide +kernel) rfl (row_lit (iv [3, 3, 4]) 3 (by simp))).mono ?_
  rintro e w1 ⟨v, rfl, hv, hb⟩
  have B := below_go (below_al (Below.refl _ _) _) hb
  have r_a : Row w1 (some ⟨w.heap.size, 0, none⟩) (iv [3, 3, 4]) := Row.below (row_lit (iv [3, 3, 4]) 3 (by simp)) hb
  have bb := B
  clear B hb
  obtain ⟨V_d, c_d, rfl, _, _, r_d, _⟩ := own_slice hv
  clear hv
  clear r_a
  go_wp2_with fail
  refine (sameB _ _ 2 2 _ _ [0, 1] [0, 1] _ rfl rfl (r_d.alloc _) (row_lit (bv [0, 1]) 5 (by simp))).mono ?_
  rintro e w2 ⟨rfl, hb⟩
  have B := below_go (below_al (Below.refl _ _) _) hb
  have r_b : Row w2 (some ⟨w1.heap.size, 0, none⟩) (bv [0, 1]) := Row.below (row_lit (bv [0, 1]) 5 (by simp)) hb
  replace r_d := r_d.below B
  replace bb := below_go bb B
  clear B hb
  rw [show decide (([0, 1] : List UInt8) = [0, 1]) = true by decide]
  clear r_d
  clear r_b
  go_wp2_with fail
  refine (key_known _ 3 3 [1, 0, 1] 0 3 5 _ rfl (by decide) (Nat.le_refl _) (by decide) (by decide) (by decide +kernel) (row_lit (bv [1, 0, 1]) 5 (by simp))).mono ?_
  rintro e w3 ⟨rfl, hb⟩
  have B := below_go (below_al (Below.refl _ _) _) hb
  have r_b : Row w3 (some ⟨w2.heap.size, 0, none⟩) (bv [1, 0, 1]) := Row.below (row_lit (bv [1, 0, 1]) 5 (by simp)) hb
  replace bb := below_go bb B
  clear B hb
  clear r_b
  go_wp2_with fail
  refine (key_known _ 2 2 [1, 1] 1 3 1 _ rfl (by decide) (Nat.le_refl _) (by decide) (by decide) (by decide +kernel) (row_lit (bv [1, 1]) 5 (by simp))).mono ?_
  rintro e w4 ⟨rfl, hb⟩
  have B := below_go (below_al (Below.refl _ _) _) hb
  have r_b : Row w4 (some ⟨w3.heap.size, 0, none⟩) (bv [1, 1]) := Row.below (row_lit (bv [1, 1]) 5 (by simp)) hb
  replace bb := below_go bb B
  clear B hb
  clear r_b
  go_wp2_with fail
  refine (row_known 2 _ 0 0 [] [2] 1 _ rfl (by decide) (by decide +kernel) rfl (Row.nil _ _)).mono ?_
  rintro e w5 ⟨v, rfl, hv, hb⟩
  have B := below_go (Below.refl _ _) hb
  replace bb := below_go bb B
  clear B hb
  obtain ⟨V_r, c_r, rfl, _, _, r_r, _⟩ := own_slice hv
  clear hv
  clear r_r
  go_wp2_with fail
  refine (put_known _ 1 1 [0] 0 1 1 [1] _ rfl (by decide) (by decide) (by decide) (by decide +kernel) (row_lit (bv [0]) 5 (by simp))).mono ?_
  rintro e w6 ⟨v, rfl, hv, hb⟩
  have B := below_go (below_al (Below.refl _ _) _) hb
  have r_b : Row w6 (some ⟨w5.heap.size, 0, none⟩) (bv [0]) := Row.below (row_lit (bv [0]) 5 (by simp)) hb
  replace bb := below_go bb B
  clear B hb
  obtain ⟨V_p, c_p, rfl, _, _, r_p, _⟩ := own_slice hv
  clear hv
  clear r_p
  clear r_b
  go_wp2_with fail
  go_ret
  exact Yes.of bb

end Go.Proofs.Ytakefhmahngdeaa
