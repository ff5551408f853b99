/-
  What the document tells of chapter 11 holds: awake returns true.
-/
import Derived.Test.YtkiijldiofbflaaHv1
import Derived.Test.YtkiijldiofbflaaHv4
import Derived.Test.YtkiijldiofbflaaKnK
namespace Go.Proofs.Ytkiijldiofbflaa
open Go.RowKit

theorem run_known (A B : Option Addr) (n m c d : Nat) (a b : List Int) (l : List Pr) (s : Nat) (w : World) (h : hv a b 0 0 = (l, s)) (hn : a.length = n) (hm : b.length = m) (hn' : n ≤ 1048576) (hm' : m ≤ 1048576) (hc : n ≤ c) (hd : m ≤ d) (h1 : Row w A (iv a)) (h2 : Row w B (iv b)) :
    Calls Try.prog 8 #[.slice A n c, .slice B m d] w (MadeS l s w) := by
  have C := run_any A B n m c d a b w hn hm hn' hm' hc hd h1 h2
  rw [h] at C
  exact C

instance (x : Int) : Decidable (I64 x) := by unfold I64; infer_instance

set_option maxRecDepth 100000 in
set_option maxHeartbeats 1600000 in
theorem awake11 (w : World) : Calls Try.prog 9 #[] w (Yes w) := by
  go_enter Try.func9, Try.ntmps9
  go_wp2_with fail
  refine (run_known _ _ 2 2 2 2 [1, 2] [2, 1] [(1, 0)] 6 _ (by decide +kernel) rfl rfl (by decide) (by decide) (Nat.le_refl _) (Nat.le_refl _) ((row_lit (iv [1, 2]) 3 (by simp)).alloc _) (row_lit (iv [2, 1]) 3 (by simp))).mono ?_
  rintro e w1 ⟨v, rfl, hv, hb⟩
  have B := below_go (below_al (below_al (Below.refl _ _) _) _) hb
  have r_a : Row w1 (some ⟨w.heap.size, 0, none⟩) (iv [1, 2]) := Row.below ((row_lit (iv [1, 2]) 3 (by simp)).alloc _) hb
  have r_b : Row w1 (some ⟨w.heap.size + 1, 0, none⟩) (iv [2, 1]) := Row.below (row_lit (iv [2, 1]) 3 (by simp)) hb
  have bb := B
  clear B hb
  obtain ⟨V_l, c_l, rfl, _, _, r_l, _⟩ := own_sliceS hv
  clear hv
  clear r_a
  clear r_b
  obtain ⟨g_l, o_l, rfl, p_l, q_l⟩ := r_l.pair (k := 0) (by decide)
  simp only [List.getElem_cons_zero, Nat.zero_mul, Nat.add_zero] at p_l q_l
  go_wp2_with fail
  refine (most_any 2 2 _ (by decide) (by decide)).mono ?_
  rintro e w2 ⟨rfl, rfl⟩
  rw [show mostI 2 2 = 12 by decide +kernel]
  go_wp2_with fail
  go_ret
  exact Yes.of bb

end Go.Proofs.Ytkiijldiofbflaa
