/-
  Words and contracts that the proof leans on.
-/
import Derived.Test.YtmhnciljbdflcaaM3
import Derived.Test.YtmhnciljbdflcaaM15
namespace Go.Proofs.Ytmhnciljbdflcaa
open Go.RowKit

theorem search_any (A : Option Addr) (n c : Nat) (l : List Int) (f : Int) (w : World) (hn : l.length = n) (hb : n ≤ 1048576) (hs : l.Pairwise (· < ·)) (hr : Row w A (iv l)) :
    Calls Try.prog 31 #[.slice A n c, .int .i64 f] w fun e w' => (∃ b, e = .returned (.tuple #[.int .i64 (l.countP (· < f) : Nat), .bool b])) ∧ ∃ q, w' = w.drewN q := by
  by_cases h0 : n = 0
  · subst h0
    have : l = [] := List.eq_nil_of_length_eq_zero hn
    subst this
    have h := Any.slices_BinarySearch_int_empty Try.searchI A c f w
    exact h.mono fun e w' ⟨h1, h2⟩ => ⟨⟨_, h1⟩, 0, h2⟩
  · obtain ⟨g, o, rfl, _⟩ := hr.int (k := 0) (by omega)
    have h := Any.slices_BinarySearch_int Try.searchI g o n c l f w (by omega) (by omega) (fun j hj => by
      obtain ⟨_, _, e, hc⟩ := hr.int hj
      cases e
      rw [hc, List.getD_eq_getElem?_getD, List.getElem?_eq_getElem hj]
      rfl) (by rw [List.take_of_length_le (by omega)]; exact hs.imp fun h => by omega)
    rw [List.take_of_length_le (by omega)] at h
    exact h.mono fun e w' ⟨h1, h2⟩ => ⟨⟨_, h1⟩, h2⟩

end Go.Proofs.Ytmhnciljbdflcaa
