/-
  Words and contracts that the proof leans on.
-/
import Derived.Test.YtejpbjglfjhjkaaM22
import Derived.Test.YtejpbjglfjhjkaaM23
import Derived.Test.YtejpbjglfjhjkaaM5
namespace Go.Proofs.Ytejpbjglfjhjkaa
open Go.RowKit

theorem ofE_best {a b : List Int} {l : List Pr} (h : goodB a b l = true) (hl : l.length = lcs a b) : ofE a b l = (lst a b, 0) := ofE_yes h (by rw [lst_length]; omega)
theorem best_good (a b : List Int) : goodB a b (lst a b) = true := good_iff.2 (lst_lea a b).1
/-- From the back. -/
theorem back_best (a b : List Int) : goodB a b (bkPs a.length b.length (lst a.reverse b.reverse)) = true ∧ (bkPs a.length b.length (lst a.reverse b.reverse)).length = lcs a b := ⟨back_good (best_good _ _), by rw [bkPs_length, lst_length, lcs_rev]⟩
theorem turn_best {a b : List Int} {l : List Pr} (h : goodB a b l = true) (hl : l.length = lcs a b) : ofE b a (turnP l) = (lst b a, 0) := ofE_best (by rw [good_turn]; exact h) (by rw [turn_length, hl, lcs_comm])
/-- The pair that is moved back next. -/
theorem back_at {a b : List Int} {R : List Pr} {t : Nat} (hg : goodB a.reverse b.reverse R = true) (ht : t < R.length) :
    ∃ x y : Nat, R[R.length - 1 - t]? = some ((x : Int), (y : Int)) ∧ x < a.length ∧ y < b.length ∧ (bkPs a.length b.length R)[t]? = some (((a.length - 1 - x : Nat) : Int), ((b.length - 1 - y : Nat) : Int)) := by
  have h1 : R[R.length - 1 - t]? = some (R[R.length - 1 - t]'(by omega)) := List.getElem?_eq_getElem _
  obtain ⟨x, y, e, hx, hy⟩ : ∃ x y : Nat, R[R.length - 1 - t]'(by omega) = ((x : Int), (y : Int)) ∧ x < a.length ∧ y < b.length := by
    have gen : ∀ (R : List Pr) (i j : Nat), Ga a.reverse b.reverse i j R → ∀ p ∈ R, ∃ x y : Nat, p = ((x : Int), (y : Int)) ∧ x < a.length ∧ y < b.length := by
      intro R
      induction R with
      | nil => intro i j _ p hp; cases hp
      | cons q R ih =>
        rintro i j ⟨x, y, u, e, _, _, hx, hy, hl⟩ p hp
        rcases List.mem_cons.1 hp with rfl | hp
        · have lx := (List.getElem?_eq_some_iff.1 hx).1
          have ly := (List.getElem?_eq_some_iff.1 hy).1
          exact ⟨x, y, e, by simpa using lx, by simpa using ly⟩
        · exact ih _ _ hl p hp
    exact gen R 0 0 (good_iff.1 hg) _ (List.getElem_mem _)
  rw [e] at h1
  refine ⟨x, y, h1, hx, hy, ?_⟩
  unfold bkPs
  rw [List.getElem?_map, List.getElem?_reverse ht, h1]
  show some _ = _
  congr 1
  refine Prod.ext ?_ ?_
  · show (a.length : Int) - 1 - (x : Int) = _
    omega
  · show (b.length : Int) - 1 - (y : Int) = _
    omega
/-! The contracts, the answer told. -/
theorem pleft_w (A B C : Option Addr) (n m N c d e : Nat) (a b : List Int) (l L : List Pr) (r : Int) (w : World) (h : lftE a b l = (L, r)) (hn : a.length = n) (hm : b.length = m) (hN : l.length = N) (hb : n ≤ 1048576) (hb' : m ≤ 1048576) (hbN : N ≤ 1048576) (h1 : Row w A (iv a)) (h2 : Row w B (iv b)) (h3 : Row w C (pv l)) :
    Calls Try.prog 9 #[.slice A n c, .slice B m d, .slice C N e] w (MadeE L r w) := by
  have := pleft_any A B C n m N c d e a b l w hn hm hN hb hb' hbN h1 h2 h3
  rw [h] at this
  exact this
theorem ptop_w (A B C : Option Addr) (n m N c d e : Nat) (a b : List Int) (l L : List Pr) (r : Int) (w : World) (h : topE a b l = (L, r)) (hn : a.length = n) (hm : b.length = m) (hN : l.length = N) (hb : n ≤ 1048576) (hb' : m ≤ 1048576) (hbN : N ≤ 1048576) (h1 : Row w A (iv a)) (h2 : Row w B (iv b)) (h3 : Row w C (pv l)) :
    Calls Try.prog 10 #[.slice A n c, .slice B m d, .slice C N e] w (MadeE L r w) := by
  have := ptop_any A B C n m N c d e a b l w hn hm hN hb hb' hbN h1 h2 h3
  rw [h] at this
  exact this
theorem pof_w (A B C : Option Addr) (n m N c d e : Nat) (a b : List Int) (l L : List Pr) (r : Int) (w : World) (h : ofE a b l = (L, r)) (hn : a.length = n) (hm : b.length = m) (hN : l.length = N) (hb : n ≤ 1048576) (hb' : m ≤ 1048576) (hbN : N ≤ 1048576) (hc : n ≤ c) (hd : m ≤ d) (h1 : Row w A (iv a)) (h2 : Row w B (iv b)) (h3 : Row w C (pv l)) :
    Calls Try.prog 8 #[.slice A n c, .slice B m d, .slice C N e] w (MadeE L r w) := by
  have := pof_any A B C n m N c d e a b l w hn hm hN hb hb' hbN hc hd h1 h2 h3
  rw [h] at this
  exact this
end Go.Proofs.Ytejpbjglfjhjkaa

namespace Go.Proofs.Ytejpbjglfjhjkaa
open Go.RowKit

set_option maxRecDepth 100000 in
set_option maxHeartbeats 1600000 in
theorem awake23 (w : World) : Calls Try.prog 11 #[] w (Yes w) := by
  have hpe0 : ∀ w, (binOp BinOp.eql 28 (Value.agg #[.int .i64 0, .int .i64 0]) (Value.agg #[.int .i64 0, .int .i64 0])).run Try.prog w = .ok (.bool true) w := fun _ => by kernel_rfl
  have hpe1 : ∀ w, (binOp BinOp.eql 28 (Value.agg #[.int .i64 0, .int .i64 1]) (Value.agg #[.int .i64 0, .int .i64 1])).run Try.prog w = .ok (.bool true) w := fun _ => by kernel_rfl
  go_enter Try.func11, Try.ntmps11
  go_wp2_with fail
  refine (pleft_w _ _ _ 1 2 1 _ _ _ [1] [1, 1] [(0, 1)] [(0, 0)] 0 _ (by decide +kernel) rfl rfl rfl (by decide) (by decide) (by decide)  (((row_lit (iv [1]) 3 (by simp)).alloc _).alloc _) ((row_lit (iv [1, 1]) 3 (by simp)).alloc _) (row_lit (pv [(0, 1)]) 28 (by simp))).mono ?_
  rintro e w1 ⟨v, rfl, hv, hb⟩
  obtain ⟨V_l, c_l, rfl, _, _, r_l, _⟩ := own_sliceS hv
  clear hv
  have B := below_go (below_al (below_al (below_al (Below.refl _ _) _) _) _) hb
  have bb := B
  clear B hb
  go_wp2_with fail
  refine (ptop_w _ _ _ 2 1 1 _ _ _ [1, 1] [1] [(1, 0)] [(0, 0)] 0 _ (by decide +kernel) rfl rfl rfl (by decide) (by decide) (by decide)  (((row_lit (iv [1, 1]) 3 (by simp)).alloc _).alloc _) ((row_lit (iv [1]) 3 (by simp)).alloc _) (row_lit (pv [(1, 0)]) 28 (by simp))).mono ?_
  rintro e w2 ⟨v, rfl, hv, hb⟩
  obtain ⟨V_m, c_m, rfl, _, _, r_m, _⟩ := own_sliceS hv
  clear hv
  have B := below_go (below_al (below_al (below_al (Below.refl _ _) _) _) _) hb
  replace r_l := r_l.below B
  replace bb := below_go bb B
  clear B hb
  go_wp2_with fail
  refine (pof_w _ _ _ 2 2 1 _ _ _ [1, 2] [2, 1] [(1, 0)] [(0, 1)] 0 _ (by decide +kernel) rfl rfl rfl (by decide) (by decide) (by decide) (Nat.le_refl _) (Nat.le_refl _) (((row_lit (iv [1, 2]) 3 (by simp)).alloc _).alloc _) ((row_lit (iv [2, 1]) 3 (by simp)).alloc _) (row_lit (pv [(1, 0)]) 28 (by simp))).mono ?_
  rintro e w3 ⟨v, rfl, hv, hb⟩
  obtain ⟨V_n, c_n, rfl, _, _, r_n, _⟩ := own_sliceS hv
  clear hv
  have B := below_go (below_al (below_al (below_al (Below.refl _ _) _) _) _) hb
  replace r_l := r_l.below B
  replace r_m := r_m.below B
  replace bb := below_go bb B
  clear B hb
  obtain ⟨g_l, o_l, rfl, q_l0, q_l1⟩ := r_l.pair (k := 0) (by decide)
  simp only [List.getElem_cons_zero, Nat.add_zero, Nat.zero_mul] at q_l0 q_l1
  obtain ⟨g_m, o_m, rfl, q_m0, q_m1⟩ := r_m.pair (k := 0) (by decide)
  simp only [List.getElem_cons_zero, Nat.add_zero, Nat.zero_mul] at q_m0 q_m1
  obtain ⟨g_n, o_n, rfl, q_n0, q_n1⟩ := r_n.pair (k := 0) (by decide)
  simp only [List.getElem_cons_zero, Nat.add_zero, Nat.zero_mul] at q_n0 q_n1
  go_wp2_with fail
  go_ret
  exact Yes.of bb

end Go.Proofs.Ytejpbjglfjhjkaa
