/-
  Words and contracts that the proof leans on.
-/
import Derived.Test.YtejpbjglfjhjkaaM24
import Derived.Test.YtejpbjglfjhjkaaM31
import Derived.Test.YtejpbjglfjhjkaaM23
namespace Go.Proofs.Ytejpbjglfjhjkaa
open Go.RowKit

theorem halves_w (A B : Option Addr) (n m c d s : Nat) (a b : List Int) (L : List Pr) (w : World) (h : hv a b 0 0 = (L, s)) (hn : a.length = n) (hm : b.length = m) (hb : n ≤ 1048576) (hb' : m ≤ 1048576) (hc : n ≤ c) (hd : m ≤ d) (h1 : Row w A (iv a)) (h2 : Row w B (iv b)) :
    Calls Try.prog 18 #[.slice A n c, .slice B m d, .int .i64 0, .int .i64 0] w (MadeS L s w) := by
  have := halves_any n A B n m c d 0 0 a b w hn hm (Nat.le_refl _) (by omega) (by omega) hc hd h1 h2
  simp only [Int.natCast_zero] at this
  rw [h] at this
  exact this
theorem any_facts {x y : List Int} {n m : Nat} (hx : x.length = n) (hy : y.length = m) (hb : n ≤ 1048576) : ∃ (B D R K H : List Pr) (N s : Nat), lst x y = B ∧ lst y x = D ∧ lst x.reverse y.reverse = R ∧ hv x y 0 0 = (H, s) ∧ B.length = N ∧ D.length = N ∧ R.length = N ∧ K.length = N ∧ (turnP K).length = N ∧ H.length = N ∧ N ≤ n ∧
    ofE x y H = (B, 0) ∧ ofE x y K = (B, 0) ∧ ofE y x (turnP K) = (D, 0) ∧ ∀ t p, t + p + 1 = N → ∃ X Y : Nat, R[p]? = some ((X : Int), (Y : Int)) ∧ X < n ∧ Y < m ∧ K[t]? = some (((n - 1 - X : Nat) : Int), ((m - 1 - Y : Nat) : Int)) := by
  obtain ⟨g1, g2⟩ := back_best x y
  obtain ⟨g3, g4⟩ := hv_is (a := x) (b := y) (by omega)
  have hR : (lst x.reverse y.reverse).length = lcs x y := by rw [lst_length, lcs_rev]
  refine ⟨lst x y, lst y x, lst x.reverse y.reverse, bkPs x.length y.length (lst x.reverse y.reverse), (hv x y 0 0).1, lcs x y, (hv x y 0 0).2, rfl, rfl, rfl, rfl, lst_length x y, by rw [lst_length, lcs_comm], hR, g2, by rw [turn_length]; exact g2, g4, by rw [← hx]; exact lcs_le_left x y, ofE_best g3 g4, ofE_best g1 g2, turn_best g1 g2, fun t p ht => ?_⟩
  obtain ⟨X, Y, f1, f2, f3, f4⟩ := back_at (a := x) (b := y) (best_good x.reverse y.reverse) (t := t) (by omega)
  rw [hR, show lcs x y - 1 - t = p by omega] at f1
  subst hx
  subst hy
  exact ⟨X, Y, f1, f2, f3, f4⟩
/-- The head of a round of the loop that moves the pairs back. -/
def BkRel (K : List Pr) (N : Nat) (w : World) (v i : Value) (wr : World) : Prop := ∃ t : Nat, AppRel (fun p => p) K w v (.int .i64 (t : Int)) wr ∧ ((t = N ∧ i = .int .i64 (-1)) ∨ ∃ p : Nat, t + p + 1 = N ∧ i = .int .i64 (p : Int))
theorem bk_rel {K : List Pr} {N t p : Nat} {w wr : World} {v : Value} (h : t + p = N) (ha : AppRel (fun p => p) K w v (.int .i64 (t : Int)) wr) : BkRel K N w v (.int .i64 ((p : Int) - 1)) wr := by
  cases p with
  | zero => exact ⟨t, ha, .inl ⟨by omega, rfl⟩⟩
  | succ p => exact ⟨t, ha, .inr ⟨p, by omega, by congr 1; omega⟩⟩

end Go.Proofs.Ytejpbjglfjhjkaa
