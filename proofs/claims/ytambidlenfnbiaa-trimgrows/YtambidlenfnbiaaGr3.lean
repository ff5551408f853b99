/-
  Contract of the reference's Grow: what it refuses.
-/
import Derived.Test.YtambidlenfnbiaaGr2
import Derived.StillTailTactics
namespace Go.Proofs.Ytambidlenfnbiaa
open Go.RowKit

set_option maxRecDepth 100000 in
set_option maxHeartbeats 3200000 in
theorem refGrow_no (A : Option Addr) (N c : Nat) (l : List Pr) (p s n m : Int) (w : World) (hN : l.length = N) (hb : N ≤ 1048576) (h1 : I64 p) (h2 : I64 s) (h3 : I64 n) (h4 : I64 m) (hf : ¬ (fits p s n = true ∧ fits p s m = true)) :
    Calls Try.prog 18 #[.slice A N c, .int .i64 p, .int .i64 s, .int .i64 n, .int .i64 m] w (GrowMade l p s n m w) := by
  subst hN
  have HF := Lib.hid (grow_no (l := l) (p := p) (s := s) (n := n) (m := m) (w := w) (by
    cases e1 : fits p s n with
    | false => simp [grows, e1]
    | true =>
      cases e2 : fits p s m with
      | false => simp [grows, e2]
      | true => exact absurd ⟨e1, e2⟩ hf) (Below.refl w.heap.size w))
  have HN : Hid (¬ (0 ≤ p ∧ 0 ≤ s ∧ 0 ≤ n ∧ 0 ≤ m ∧ n ≤ 1048576 ∧ m ≤ 1048576 ∧ p + s ≤ n ∧ p + s ≤ m)) := fun h => hf ⟨(fits_yes (by omega)).symm, (fits_yes (by omega)).symm⟩
  clear hf
  unfold I64 at h1 h2 h3 h4
  go_enter Try.func18, Try.ntmps18
  go_wp2_with fail
  all_goals first
    | (go_ret2; exact HF.out)
    | (exact absurd (by omega) HN.out)

end Go.Proofs.Ytambidlenfnbiaa
