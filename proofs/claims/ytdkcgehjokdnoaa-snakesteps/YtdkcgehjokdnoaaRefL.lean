/-
  The reference's comparing of lists of lists of numbers (tattingref1.SameLists).
-/
import Derived.Test.YtdkcgehjokdnoaaIRows
namespace Go.Proofs.Ytdkcgehjokdnoaa
open Go.RowKit

theorem sameInts_quiet (A A' : Option Addr) (n n' c c' q : Nat) (ls ms : List Int) (w : World) (r : Bool) (hn : ls.length = n) (hn' : ms.length = n') (hb : n ≤ 9223372036854775807) (hr : Row w A (iv ls)) (hr' : Row w A' (iv ms)) (hv : decide (ls = ms) = r) :
    Calls Try.prog 16 #[.slice A n c, .slice A' n' c'] (w.drewN q) fun e w'' => e = .returned (.bool r) ∧ ∃ k, w'' = w.drewN k := by
  subst hv
  exact Calls.quiet_of (sameInts_any A A' n n' c c' ls ms (w.drewN q) hn hn' hb hr hr')

end Go.Proofs.Ytdkcgehjokdnoaa
