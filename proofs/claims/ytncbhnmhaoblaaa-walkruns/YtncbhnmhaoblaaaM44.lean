/-
  Words and contracts that the proof leans on.
-/
import Derived.Test.YtncbhnmhaoblaaaM39
import Derived.Test.YtncbhnmhaoblaaaM31
import Derived.Test.YtncbhnmhaoblaaaM42
import Derived.Test.YtncbhnmhaoblaaaM43
import Derived.Test.YtncbhnmhaoblaaaM11
namespace Go.Proofs.Ytncbhnmhaoblaaa
open Go.RowKit

/-- Run where the list and the steps are told. -/
def WwMade (WL : List Pr) (SW : Int) (w : World) (e : Ending) (w' : World) : Prop :=
  ∃ v, e = .returned (.tuple #[v, .int .i64 SW, .int .i64 0]) ∧ w'.ownsRow w.heap.size 29 2 v WL.length (pv WL) ∧ Below w.heap.size w w'
theorem wrun_w (kind e : Int) (A B : Option Addr) (n m c d : Nat) (a b : List Int) (WL : List Pr) (SW : Int) (w : World) (hn : a.length = n) (hm : b.length = m) (hb : n ≤ 1048576) (hb' : m ≤ 1048576) (hc : n ≤ c) (hI : I64 e) (h1 : Row w A (iv a)) (h2 : Row w B (iv b)) (wa : ∀ x ∈ a, (Lit.int .i64 x).wf = true) (wb : ∀ x ∈ b, (Lit.int .i64 x).wf = true) (h : (kind = 0 ∨ kind = 1) ∧ 1 ≤ e) (hW : wayL a b n m = WL) (hS : 2 * stepsW (n : Int) (m : Int) = SW) :
    Calls Try.prog 8 #[.int .i64 kind, .slice A n c, .slice B m d, .int .i64 e] w (WwMade WL SW w) := by
  refine (wrun_any kind e A B n m c d a b w hn hm hb hb' hc hI h1 h2 wa wb h).mono ?_
  rintro x w' ⟨v, rfl, own, hB⟩
  subst hW
  subst hS
  rw [hn, hm] at own ⊢
  exact ⟨v, rfl, own, hB⟩
theorem is_root {x r : Nat} (h1 : 1 ≤ r) (h2 : x ≤ r * r) (h3 : r = 1 ∨ (r - 1) * (r - 1) < x) : IsRoot x r := ⟨h1, h2, h3⟩
theorem way_len (a b : List Int) (n m : Nat) (hn : a.length = n) : (wayL a b n m).length ≤ n := by
  have h1 := (way_is a b _ n m rfl).2
  have h3 := lcs_le_left (a.take n) (b.take m)
  have h4 : px a b n m = lcs (a.take n) (b.take m) := rfl
  rw [List.length_take] at h3
  omega
theorem steps_small {n m : Nat} (hn : n ≤ 1048576) (hm : m ≤ 1048576) : ∃ S : Nat, stepsW (n : Int) (m : Int) = (S : Int) ∧ S ≤ 17179869184 := by
  obtain ⟨N, W, X, _, _, _, hX, _, e2⟩ := stepsW_yes (n := (n : Int)) (m := (m : Int)) ⟨by omega, by omega, by omega, by omega⟩
  exact ⟨X, e2.symm, hX⟩
end Go.Proofs.Ytncbhnmhaoblaaa

namespace Go.Proofs.Ytncbhnmhaoblaaa
open Go.RowKit

set_option maxRecDepth 100000 in
set_option maxHeartbeats 1600000 in
theorem awake22 (w : World) : Calls Try.prog 9 #[] w (Yes w) := by
  go_enter Try.func9, Try.ntmps9
  go_wp2_with fail
  refine (wrun_w (0) (1) _ _ 2 2 2 2 [1, 2] [2, 1] [(1, 0)] 4 _ rfl rfl (by decide) (by decide) (by decide) (by unfold I64; decide) ((row_lit (iv [1, 2]) 3 (by simp)).alloc _) (row_lit (iv [2, 1]) 3 (by simp)) (by decide) (by decide) (by decide) (by decide +kernel) (by decide +kernel)).mono ?_
  rintro e w1 ⟨v, rfl, hv, hb⟩
  obtain ⟨V_l, c_l, rfl, _, _, r_l, _⟩ := own_sliceS hv
  clear hv
  have B := below_go (below_al (below_al (Below.refl _ _) _) _) hb
  have bb := B
  clear B hb
  clear r_l
  go_wp2_with fail
  refine (wkept_any (5) (2) _ (by unfold I64; decide) (by unfold I64; decide)).mono ?_
  rintro e w2 ⟨v, rfl, hv, hb⟩
  have B := below_go (Below.refl _ _) hb
  replace bb := below_go bb B
  clear B hb
  rw [show keptI (5) (2) = [0, 2, 4] by decide +kernel] at hv
  obtain ⟨V_x, c_x, rfl, _, _, r_x, _⟩ := own_slice hv
  clear hv
  go_wp2_with fail
  refine (sameInts_any _ _ 3 3 _ _ [0, 2, 4] [0, 2, 4] _ rfl rfl (by decide) (r_x.alloc _) (row_lit (iv [0, 2, 4]) 3 (by simp))).mono ?_
  rintro e w3 ⟨rfl, q, hq⟩
  have hb := below_of hq
  clear hq
  have B := below_go (below_al (Below.refl _ _) _) hb
  clear r_x
  replace bb := below_go bb B
  clear B hb
  rw [show decide (([0, 2, 4] : List Int) = [0, 2, 4]) = true by decide]
  go_wp2_with fail
  refine (wroot_any (5) _).mono ?_
  rintro e w4 ⟨r0, rfl, hr0, e0⟩
  have hb := below_same e0.symm
  clear e0
  have B := below_go (Below.refl _ _) hb
  replace bb := below_go bb B
  clear B hb
  obtain rfl : r0 = 3 := root_unique hr0 (is_root (by decide) (by decide +kernel) (by decide))
  clear hr0
  go_wp2_with fail
  refine (wroom_any (5) (65) (2) _ (by unfold I64; decide) (by unfold I64; decide)).mono ?_
  rintro e w5 ⟨rfl, e0⟩
  have hb := below_same e0.symm
  clear e0
  have B := below_go (Below.refl _ _) hb
  replace bb := below_go bb B
  clear B hb
  rw [show roomI (5) (65) (2) = 10 by decide +kernel]
  go_wp2_with fail
  go_ret
  exact Yes.of bb

end Go.Proofs.Ytncbhnmhaoblaaa
