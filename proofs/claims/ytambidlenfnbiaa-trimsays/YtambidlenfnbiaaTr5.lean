/-
  Contract of the reference's Mid.
-/
import Derived.Test.YtambidlenfnbiaaTr4
import Derived.Test.YtambidlenfnbiaaStep
namespace Go.Proofs.Ytambidlenfnbiaa
open Go.RowKit

/-- What the reference's Mid leaves: pieces of both. -/
def MidCut (u v : List Int) (w : World) (e : Ending) (w' : World) : Prop :=
  ∃ A' c' B' d', e = .returned (.tuple #[.slice A' u.length c', .slice B' v.length d']) ∧ Row w A' (iv u) ∧ Row w B' (iv v) ∧ ∃ q, w' = w.drewN q


theorem midcut_done {u v : List Int} {w w' : World} {A B : Option Addr} {n m c d q : Nat} (k1 : u.length = n) (k2 : v.length = m) (r1 : Row w A (iv u)) (r2 : Row w B (iv v)) (h : w' = w.drewN q) : MidCut u v w (.returned (.tuple #[.slice A n c, .slice B m d])) w' := by
  subst k1
  subst k2
  exact ⟨A, c, B, d, rfl, r1, r2, q, h⟩

set_option maxHeartbeats 1600000 in
theorem refMid_any (A B : Option Addr) (n m c d : Nat) (a b : List Int) (w : World) (hn : a.length = n) (hm : b.length = m) (hb : n ≤ 2147483648) (hb' : m ≤ 2147483648) (hc : n ≤ c) (hd : m ≤ d) (h1 : Row w A (iv a)) (h2 : Row w B (iv b)) :
    Calls Try.prog 14 #[.slice A n c, .slice B m d] w (MidCut (mid a (pe a b) (se a b)) (mid b (pe a b) (se a b)) w) := by
  have hp1 : pe a b + se a b ≤ n := by have := ends_left a b; omega
  have hp2 : pe a b + se a b ≤ m := by have := ends_right a b; omega
  have HO := Lib.hid (refEnds_any A B n m c d a b w hn hm hb hb' h1 h2)
  have K1 := Lib.hid (show (mid a (pe a b) (se a b)).length = n - se a b - pe a b by rw [mid_length _ _ _ (by omega)]; omega)
  have K2 := Lib.hid (show (mid b (pe a b) (se a b)).length = m - se a b - pe a b by rw [mid_length _ _ _ (by omega)]; omega)
  have r1 : Row w (if c = pe a b then A else A.map (·.add (pe a b))) (iv (mid a (pe a b) (se a b))) := h1.cutI _ _ _ (by omega) (by omega)
  have r2 : Row w (if d = pe a b then B else B.map (·.add (pe a b))) (iv (mid b (pe a b) (se a b))) := h2.cutI _ _ _ (by omega) (by omega)
  clear hn hm h1 h2
  have e1 := len_sub hp1
  have e2 := len_sub hp2
  have f1 : pe a b ≤ n - se a b := by omega
  have f2 : pe a b ≤ m - se a b := by omega
  have b1 : n - se a b ≤ n := Nat.sub_le _ _
  have b2 : m - se a b ≤ m := Nat.sub_le _ _
  have b3 : n - se a b ≤ c := by omega
  have b4 : m - se a b ≤ d := by omega
  generalize mid a (pe a b) (se a b) = u at *
  generalize mid b (pe a b) (se a b) = v at *
  generalize pe a b = p at *
  generalize se a b = s at *
  generalize n - s = N at *
  generalize m - s = M at *
  go_enter Try.func14, Try.ntmps14
  go_wp2_with fail
  refine HO.out.mono ?_
  rintro e w1 ⟨rfl, q, hq⟩
  have HQ := Lib.hid hq
  clear hq HO
  by_cases hcp : c = p <;> by_cases hdp : d = p
  · subst hcp
    subst hdp
    rw [if_pos rfl] at r1
    rw [if_pos rfl] at r2
    go_wp2_with fail
    go_quiet (fail)
    go_wp2_with fail
    go_ret2
    exact midcut_done (by have := K1.out; omega) (by have := K2.out; omega) r1 r2 (by rw [HQ.out, World.drewN_drewN])
  · subst hcp
    rw [if_pos rfl] at r1
    rw [if_neg hdp] at r2
    go_wp2_with fail
    go_quiet (fail)
    go_wp2_with fail
    go_ret2
    exact midcut_done (by have := K1.out; omega) (by have := K2.out; omega) r1 r2 (by rw [HQ.out, World.drewN_drewN])
  · subst hdp
    rw [if_neg hcp] at r1
    rw [if_pos rfl] at r2
    go_wp2_with fail
    go_quiet (fail)
    go_wp2_with fail
    go_ret2
    exact midcut_done (by have := K1.out; omega) (by have := K2.out; omega) r1 r2 (by rw [HQ.out, World.drewN_drewN])
  · rw [if_neg hcp] at r1
    rw [if_neg hdp] at r2
    go_wp2_with fail
    go_quiet (fail)
    go_wp2_with fail
    go_ret2
    exact midcut_done (by have := K1.out; omega) (by have := K2.out; omega) r1 r2 (by rw [HQ.out, World.drewN_drewN])

end Go.Proofs.Ytambidlenfnbiaa
