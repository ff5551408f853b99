/-
  Words and contracts that the proof leans on.
-/
import Derived.Test.YtejpbjglfjhjkaaM2
import Derived.Deep.RegionLaw
namespace Go.Proofs.Ytejpbjglfjhjkaa
open Go.RowKit

theorem Row.take {w : World} {A : Option Addr} {us : List Value} (h : Row w A us) (k : Nat) : Row w A (us.take k) := fun hne => by
  obtain ⟨g, o, e, hc⟩ := h (by intro e; rw [e] at hne; simp at hne)
  refine ⟨g, o, e, fun i u hu => hc i u ?_⟩
  rw [List.getElem?_take] at hu
  split at hu
  · exact hu
  · cases hu
theorem Row.drop {w : World} {A : Option Addr} {us : List Value} (h : Row w A us) (k : Nat) : Row w (Option.map (fun x => x.add k) A) (us.drop k) := fun hne => by
  obtain ⟨g, o, e, hc⟩ := h (by intro e; rw [e] at hne; simp at hne)
  subst e
  refine ⟨g, o + k, by simp [Addr.add_lit], fun i u hu => ?_⟩
  rw [List.getElem?_drop] at hu
  have := hc (k + i) u hu
  rwa [← Nat.add_assoc] at this

theorem Row.alloc {w : World} {A : Option Addr} {us : List Value} (h : Row w A us) (o : Obj) : Row (w.alloc o) A us := h.below ((Below.refl _ _).alloc (Nat.le_refl _) o)
theorem Row.drew {w : World} {A : Option Addr} {us : List Value} (h : Row w A us) : Row w.drew A us := h
theorem Row.grown {w w' : World} {A : Option Addr} {us : List Value} {b : Option Nat} (h : Row w A us) (hg : w.grownBy w' b) (hne : ∀ a, A = some a → some a.block ≠ b) : Row w' A us := fun hn => by
  obtain ⟨g, o, e, hc⟩ := h hn
  exact ⟨g, o, e, fun i u hu => hg.cell (hc i u hu) (show some g ≠ b from hne ⟨g, o, none⟩ e)⟩
end Go.Proofs.Ytejpbjglfjhjkaa

namespace Go.Proofs.Ytejpbjglfjhjkaa
open Go.RowKit

/-- An int64. -/
def I64 (n : Int) : Prop := -9223372036854775808 ≤ n ∧ n ≤ 9223372036854775807
theorem Yes.of {w w' : World} (h : Below w.heap.size w w') : Yes w (.returned (.bool true)) w' := ⟨rfl, h⟩
theorem below_drawn {w0 w w' : World} {B q : Nat} (hq : w' = w.drewN q) (h : Below B w0 w) : Below B w0 w' := by subst hq; exact below_drewN h q
theorem below_go {w w1 w2 : World} (h : Below w.heap.size w w1) (h2 : Below w1.heap.size w1 w2) : Below w.heap.size w w2 := h.trans (h2.mono h.size)
end Go.Proofs.Ytejpbjglfjhjkaa

namespace Go.Proofs.Ytejpbjglfjhjkaa
open Go.RowKit

theorem row_lit {w : World} (cs : List Value) (t : TypeId) {b : Nat} (hb : w.heap.size = b) : Row (w.alloc (.cells cs.toArray t)) (some ⟨b, 0, none⟩) cs := by
  subst hb
  exact Row.new w cs t (0, 0)
theorem below_of {w w' : World} {q : Nat} (h : w' = w.drewN q) : Below w.heap.size w w' := below_drawn h (Below.refl _ _)
theorem below_al {w w' : World} (h : Below w.heap.size w w') (o : Obj) : Below w.heap.size w (w'.alloc o) := h.alloc h.size o

end Go.Proofs.Ytejpbjglfjhjkaa
