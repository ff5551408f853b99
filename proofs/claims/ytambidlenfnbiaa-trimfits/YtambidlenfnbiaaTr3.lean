/-
  Contracts of package trim's Mid, and of the reference's Ends and Mid.
-/
import Derived.Test.YtambidlenfnbiaaTr2
import Derived.Test.YtambidlenfnbiaaStep
import Derived.Deep.RegionWith
namespace Go.Proofs.Ytambidlenfnbiaa
open Go.RowKit

/-- What Mid leaves: two new lists. -/
def MidMade (u v : List Int) (w : World) (e : Ending) (w' : World) : Prop :=
  ∃ x y, e = .returned (.tuple #[x, y]) ∧ w'.ownsRow w.heap.size 3 1 x u.length (iv u) ∧ w'.ownsRow w.heap.size 3 1 y v.length (iv v) ∧ Below w.heap.size w w'

theorem mid_done {u v : List Int} {w w0 w1 w2 : World} {x y : Value} {q : Nat} (hw : w0 = w.drewN q) (h1 : w1.ownsRow w0.heap.size 3 1 x u.length (iv u)) (b1 : Below w0.heap.size w0 w1) (h2 : w2.ownsRow w1.heap.size 3 1 y v.length (iv v)) (b2 : Below w1.heap.size w1 w2) :
    MidMade u v w (.returned (.tuple #[x, y])) w2 := by
  subst hw
  exact ⟨x, y, rfl, own_below h1 b2 (Nat.le_refl _), own_lower h2 b1.size, ((below_drewN (Below.refl w.heap.size w) q).trans b1).trans (b2.mono b1.size)⟩


set_option maxHeartbeats 1600000 in
theorem mid_any (A B : Option Addr) (n m c d : Nat) (a b : List Int) (w : World) (hn : a.length = n) (hm : b.length = m) (hb : n ≤ 2147483648) (hb' : m ≤ 2147483648) (hc : n ≤ c) (hd : m ≤ d) (h1 : Row w A (iv a)) (h2 : Row w B (iv b)) :
    Calls Try.prog 13 #[.slice A n c, .slice B m d] w (MidMade (mid a (pe a b) (se a b)) (mid b (pe a b) (se a b)) w) := by
  have hp1 : pe a b + se a b ≤ n := by have := ends_left a b; omega
  have hp2 : pe a b + se a b ≤ m := by have := ends_right a b; omega
  have HO := Lib.hid (of_any A B n m c d a b w hn hm hb hb' hc hd h1 h2)
  have hL1 : (mid a (pe a b) (se a b)).length = n - pe a b - se a b := by rw [mid_length _ _ _ (by omega)]; omega
  have hL2 : (mid b (pe a b) (se a b)).length = m - pe a b - se a b := by rw [mid_length _ _ _ (by omega)]; omega
  have r1 : ∀ W q, W = w.drewN q → Row W (if c = pe a b then A else A.map (·.add (pe a b))) (iv (mid a (pe a b) (se a b))) := fun W q e => by
    subst e
    exact Row.drewN (h1.cutI _ _ _ (by omega) (by omega)) q
  have r2 : ∀ W q, W = w.drewN q → Row W (if d = pe a b then B else B.map (·.add (pe a b))) (iv (mid b (pe a b) (se a b))) := fun W q e => by
    subst e
    exact Row.drewN (h2.cutI _ _ _ (by omega) (by omega)) q
  clear hn hm h1 h2
  generalize mid a (pe a b) (se a b) = u at *
  generalize mid b (pe a b) (se a b) = v at *
  generalize pe a b = p at *
  generalize se a b = s at *
  go_enter Try.func13, Try.ntmps13
  go_wp2_with fail
  refine HO.out.mono ?_
  rintro e w1 ⟨rfl, q, hq⟩
  have q1 := r1 w1 q hq
  have q2 := r2 w1 q hq
  have HQ := Lib.hid hq
  clear hq r1 r2 HO
  have e1 := len_sub hp1
  have e2 := len_sub hp2
  have f1 : p ≤ n - s := by omega
  have f2 : p ≤ m - s := by omega
  have g1 : n - s - p ≤ 2147483648 := by omega
  have g2 : m - s - p ≤ 2147483648 := by omega
  have k1 : u.length = n - s - p := by omega
  have k2 : v.length = m - s - p := by omega
  have K1 := Lib.hid k1
  have K2 := Lib.hid k2
  clear k1 k2 hL1 hL2
  have b1 : n - s ≤ n := Nat.sub_le _ _
  have b2 : m - s ≤ m := Nat.sub_le _ _
  have b3 : n - s ≤ c := by omega
  have b4 : m - s ≤ d := by omega
  generalize n - s = N at *
  generalize m - s = M at *
  have wr1 := IntWalk.i64_in (N : Int) (by omega)
  have wr2 := IntWalk.i64_in (M : Int) (by omega)
  have wr3 : IntKind.i64.wrap ((n : Int) - (s : Int)) = (N : Int) := by rw [e1, wr1]
  have wr4 : IntKind.i64.wrap ((m : Int) - (s : Int)) = (M : Int) := by rw [e2, wr2]
  by_cases hcp : c = p <;> by_cases hdp : d = p
  · subst hcp
    subst hdp
    rw [if_pos rfl] at q1
    rw [if_pos rfl] at q2
    go_wp2_with fail
    go_region_with (go_at_call 26; first
      | (refine (copied_any _ 0 _ u w1.drew (by have := K1.out; omega) (by omega) (Row.drew q1)).mono ?_; rintro e w2 ⟨x, rfl, ox, bx⟩; have q3 := Row.below (w := w1.drew) q2 bx; clear q1 q2)
      | (refine (copied_any _ 0 _ v w2 (by have := K2.out; omega) (by omega) q3).mono ?_; rintro e w3 ⟨y, rfl, oy, by2⟩))
    all_goals (clear wr1 wr2 wr3 wr4 e1 e2 f1 f2 g1 g2 K1 K2 b1 b2 b3 b4 hp1 hp2 hc hd hb hb' q3 ; go_simp; go_wp2_with fail; go_ret2; exact mid_done (w0 := w1.drew) (q := q + 1) (by rw [HQ.out]; rfl) ox bx oy by2)
  · subst hcp
    rw [if_pos rfl] at q1
    rw [if_neg hdp] at q2
    go_wp2_with fail
    go_region_with (go_at_call 26; first
      | (refine (copied_any _ 0 _ u w1.drew (by have := K1.out; omega) (by omega) (Row.drew q1)).mono ?_; rintro e w2 ⟨x, rfl, ox, bx⟩; have q3 := Row.below (w := w1.drew) q2 bx; clear q1 q2)
      | (refine (copied_any _ _ _ v w2 K2.out g2 q3).mono ?_; rintro e w3 ⟨y, rfl, oy, by2⟩))
    all_goals (clear wr1 wr2 wr3 wr4 e1 e2 f1 f2 g1 g2 K1 K2 b1 b2 b3 b4 hp1 hp2 hc hd hb hb' q3 hdp; go_simp; go_wp2_with fail; go_ret2; exact mid_done (w0 := w1.drew) (q := q + 1) (by rw [HQ.out]; rfl) ox bx oy by2)
  · subst hdp
    rw [if_neg hcp] at q1
    rw [if_pos rfl] at q2
    go_wp2_with fail
    go_region_with (go_at_call 26; first
      | (refine (copied_any _ _ _ u w1.drew K1.out g1 (Row.drew q1)).mono ?_; rintro e w2 ⟨x, rfl, ox, bx⟩; have q3 := Row.below (w := w1.drew) q2 bx; clear q1 q2)
      | (refine (copied_any _ 0 _ v w2 (by have := K2.out; omega) (by omega) q3).mono ?_; rintro e w3 ⟨y, rfl, oy, by2⟩))
    all_goals (clear wr1 wr2 wr3 wr4 e1 e2 f1 f2 g1 g2 K1 K2 b1 b2 b3 b4 hp1 hp2 hc hd hb hb' q3 hcp; go_simp; go_wp2_with fail; go_ret2; exact mid_done (w0 := w1.drew) (q := q + 1) (by rw [HQ.out]; rfl) ox bx oy by2)
  · rw [if_neg hcp] at q1
    rw [if_neg hdp] at q2
    go_wp2_with fail
    go_region_with (go_at_call 26; first
      | (refine (copied_any _ _ _ u w1.drew K1.out g1 (Row.drew q1)).mono ?_; rintro e w2 ⟨x, rfl, ox, bx⟩; have q3 := Row.below (w := w1.drew) q2 bx; clear q1 q2)
      | (refine (copied_any _ _ _ v w2 K2.out g2 q3).mono ?_; rintro e w3 ⟨y, rfl, oy, by2⟩))
    all_goals (clear wr1 wr2 wr3 wr4 e1 e2 f1 f2 g1 g2 K1 K2 b1 b2 b3 b4 hp1 hp2 hc hd hb hb' q3 hcp hdp; go_simp; go_wp2_with fail; go_ret2; exact mid_done (w0 := w1.drew) (q := q + 1) (by rw [HQ.out]; rfl) ox bx oy by2)

end Go.Proofs.Ytambidlenfnbiaa
