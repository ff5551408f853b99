/-
  The reference's comparing of bytes (tattingref1.Same).
-/
import Derived.Test.YtakefhmahngdeaaMemB
namespace Go.Proofs.Ytakefhmahngdeaa
open Go.RowKit

theorem beq_dec (l r : List UInt8) : (l == r) = decide (l = r) := by
  by_cases h : l = r
  · subst h; simp
  · simp [h]

/-- tattingref1.Same -/
theorem refSame_any (A B : Option Addr) (n m c d : Nat) (l r : List UInt8) (w : World) (hn : l.length = n) (hm : r.length = m) (h1 : Row w A (bv l)) (h2 : Row w B (bv r)) :
    Calls Try.prog 14 #[.slice A n c, .slice B m d] w fun e w' => e = .returned (.bool (decide (l = r))) ∧ w = w' := by
  have cv := conv_any (P := Try.prog) hn h1 23 9 5 c Try.underlying23 Try.underlying5 Try.underlying9
  have cv' := conv_any (P := Try.prog) hm h2 23 9 5 d Try.underlying23 Try.underlying5 Try.underlying9
  clear h1 h2 hn hm
  go_enter Try.func14, Try.ntmps14
  go_wp2_with fail
  go_ret
  exact ⟨ret_bool (by simpa using beq_dec l r), rfl⟩

theorem refSame_quiet (A B : Option Addr) (n m c d q : Nat) (l r : List UInt8) (w : World) (b : Bool) (hn : l.length = n) (hm : r.length = m) (h1 : Row w A (bv l)) (h2 : Row w B (bv r)) (hv : decide (l = r) = b) :
    Calls Try.prog 14 #[.slice A n c, .slice B m d] (w.drewN q) fun e w'' => e = .returned (.bool b) ∧ ∃ k, w'' = w.drewN k := by
  subst hv
  exact (refSame_any A B n m c d l r (w.drewN q) hn hm h1 h2).mono fun e w' ⟨he, hw⟩ => ⟨he, q, hw.symm⟩

end Go.Proofs.Ytakefhmahngdeaa
