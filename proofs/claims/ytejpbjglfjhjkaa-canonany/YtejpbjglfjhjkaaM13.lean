/-
  Words and contracts that the proof leans on.
-/
import Derived.RangeFuncNested
import Derived.OrdersHeld
import Derived.OwnWalkIn
import Derived.TacticsInMore
namespace Go.Proofs.Ytejpbjglfjhjkaa
open Go.RowKit

/-- The one operation that may come up now. -/
theorem held_one {P : Program} {md : Region.Mode} {ops : Array Oper} {Q : Exit → Act → World → Prop} {S : World → Prop} {i fuel : Nat} {o : Oper} {listed : Array Bool} {a : Act} {w : World} (hr : Region.ready md ops listed = [i]) (ho : ops[i]? = some o) (hw : Region.wanted o (yielded ops a.tmps) = true)
    (h : o.wp P a w (fun a' w' => S w' ∧ wpAnyH P md ops Q S fuel (listed.setIfInBounds i true) a' w') Q) : wpAnyH P md ops Q S (fuel + 1) listed a w := by
  refine wpAnyH_all hr (by simp) fun j hj => ?_
  obtain rfl := List.mem_singleton.1 hj
  unfold wpOp
  simp only [ho, hw, if_true]
  exact .inl h
/-- All have been taken. -/
theorem held_done {P : Program} {md : Region.Mode} {ops : Array Oper} {Q : Exit → Act → World → Prop} {S : World → Prop} {fuel : Nat} {listed : Array Bool} {a : Act} {w : World} (hr : Region.ready md ops listed = []) (h : Q .normal a w) : wpAnyH P md ops Q S fuel listed a w := wpAnyH_done hr h fuel
/-- Whatever the world. -/
def AnyW (w : World) : Prop := w = w
theorem anyW (w : World) : AnyW w := rfl

end Go.Proofs.Ytejpbjglfjhjkaa
