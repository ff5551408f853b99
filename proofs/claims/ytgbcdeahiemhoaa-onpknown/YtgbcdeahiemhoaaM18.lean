/-
  Words and contracts that the proof leans on.
-/
import Derived.Test.YtgbcdeahiemhoaaM1
import Derived.Test.YtgbcdeahiemhoaaM4
import Derived.Deep.DeepCutAuto
namespace Go.Proofs.Ytgbcdeahiemhoaa
open Go.RowKit

theorem take_next {a b : List Int} {k : Nat} {x : Int} (h : a.take k = b.take k) (h1 : a[k]? = some x) (h2 : b[k]? = some x) : a.take (k + 1) = b.take (k + 1) := by
  obtain ⟨g1, e1⟩ := List.getElem?_eq_some_iff.1 h1
  obtain ⟨g2, e2⟩ := List.getElem?_eq_some_iff.1 h2
  rw [List.take_succ_eq_append_getElem g1, List.take_succ_eq_append_getElem g2, h, e1, e2]
theorem pre_stop {a b : List Int} {k : Nat} {x y : Int} (h1 : k ≤ a.length) (h2 : k ≤ b.length) (h : a.take k = b.take k) (e1 : a[k]? = some x) (e2 : b[k]? = some y) (hne : x ≠ y) : pre a b = k :=
  pre_at h1 h2 h fun g1 g2 e => by
    rw [List.getElem?_eq_getElem g1] at e1
    rw [List.getElem?_eq_getElem g2] at e2
    exact hne (by rw [← Option.some.inj e1, ← Option.some.inj e2, e])
theorem pre_all {a b : List Int} {k : Nat} (h1 : k ≤ a.length) (h2 : k ≤ b.length) (h : a.take k = b.take k) (hm : min a.length b.length ≤ k) : pre a b = k :=
  pre_at h1 h2 h fun g1 g2 => absurd hm (by omega)
theorem iv_get {l : List Int} {k : Nat} (hk : k < l.length) : (iv l)[k]'(by simpa [iv] using hk) = .int .i64 l[k] := by simp [iv]
theorem rev_at {a : List Int} {k : Nat} (hk : k < a.length) : a.reverse[k]? = some (a[a.length - 1 - k]'(by omega)) := by
  rw [List.getElem?_reverse hk, List.getElem?_eq_getElem]

end Go.Proofs.Ytgbcdeahiemhoaa
