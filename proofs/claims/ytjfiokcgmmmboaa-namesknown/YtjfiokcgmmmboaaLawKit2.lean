/-
  Small words for the statements of chapter 2.
-/
import Derived.Test.YtjfiokcgmmmboaaAwake2
import Derived.Test.YtjfiokcgmmmboaaArgs
namespace Go.Proofs.Ytjfiokcgmmmboaa
open Go.RowKit

theorem BSs.max {w : World} {xs : List Value} {ls : List Bs} (h : BSs w xs ls) : ∀ t ∈ ls, t.length ≤ maxLen := fun t ht => by
  obtain ⟨k, hk, rfl⟩ := List.mem_iff_getElem.1 ht
  obtain ⟨A, c, _, h1, h2, _⟩ := h.get hk
  omega
theorem few_short {ls : List Bs} (h : fewB ls = true) : ∀ t ∈ ls, t.length ≤ 2147483648 := fun t ht => by have := fewB_each h t ht; omega

end Go.Proofs.Ytjfiokcgmmmboaa
