/-
  Contracts of the reference's Turn and Move.
-/
import Derived.Test.YtobijkjonnoeiaaPrT
import Derived.Deep.DeepCutAuto
namespace Go.Proofs.Ytobijkjonnoeiaa
open Go.RowKit

/-- The head of a round that appends pairs: k of them are f of l's. -/
def AppRel (f : Pr → Pr) (l : List Pr) (w : World) (v i : Value) (wr : World) : Prop :=
  ∃ k : Nat, k ≤ l.length ∧ i = .int .i64 (k : Int) ∧ wr.ownsRow w.heap.size 26 2 v k (pv ((l.take k).map f)) ∧ Below w.heap.size w wr
theorem app_step {f : Pr → Pr} {l : List Pr} {w wr : World} {k : Nat} {p : Pr} {v : Value} (hk : k < l.length) (hp : l[k]? = some p) {x y : Int} (hx : x = (f p).1) (hy : y = (f p).2) (h : wr.ownsRow w.heap.size 26 2 v (k + 1) (pv ((l.take k).map f) ++ [.int .i64 x, .int .i64 y])) (hb : Below w.heap.size w wr) :
    AppRel f l w v (.int .i64 (k + 1 : Nat)) wr := by
  subst hx
  subst hy
  obtain ⟨hk', e'⟩ := List.getElem?_eq_some_iff.1 hp
  refine ⟨k + 1, by omega, rfl, ?_, hb⟩
  rw [List.take_succ_eq_append_getElem hk, e', List.map_append, pv_append]
  exact h
theorem app_done {f : Pr → Pr} {l : List Pr} {w wr : World} {k : Nat} {v : Value} (hk : ¬ k < l.length) (hk' : k ≤ l.length) (h : wr.ownsRow w.heap.size 26 2 v k (pv ((l.take k).map f))) (hb : Below w.heap.size w wr) : MadeP (l.map f) w (.returned v) wr := by
  have e : k = l.length := by omega
  subst e
  rw [List.take_length] at h
  exact ⟨_, rfl, by simpa using h, hb⟩

set_option maxRecDepth 100000 in
set_option maxHeartbeats 1600000 in
theorem refMove (A : Option Addr) (N c : Nat) (l : List Pr) (a b : Int) (w : World) (hN : l.length = N) (hb : N ≤ 1048576) (hr : Row w A (pv l)) :
    Calls Try.prog 19 #[.slice A N c, .int .i64 a, .int .i64 b] w (MadeP (moveP l a b) w) := by
  subst hN
  obtain ⟨i0, hi, hz0, hz1, hz2⟩ := info_parts Try.infoPair
  go_enter Try.func19, Try.ntmps19
  go_wp2_with fail
  go_loopw [7, 8] (fun v i wr => AppRel (movP a b) l w v i wr) (fun _ i _ => l.length - (intOf i).toNat)
  case atStart => exact ⟨0, Nat.zero_le _, rfl, World.ownsRow_nil _ _ _ _, Below.refl _ _⟩
  case round =>
    obtain ⟨k, hk, rfl, hwn, hbr⟩ := hrel
    have hsz := hbr.size
    by_cases hlt : k < l.length
    · obtain ⟨g, o, rfl, hc, hd⟩ := (hr.below hbr).pair hlt
      have HX : Hid (l[k]? = some l[k]) := List.getElem?_eq_getElem hlt
      generalize l[k] = z at *
      clear hr
      obtain ⟨z1, z2⟩ := z
      simp only at hc hd
      go_wp2_with fail
      go_region_law ((refine step_own rfl (.tmp 15) (.tmp 31) 22 rfl w.heap.size 26 i0 (.agg #[.int .i64 0, .int .i64 0]) 2 16 Try.underlying22 hi hz0 hz1 hz2 rfl (by decide) _ k _ rfl ((hwn.alloc _).drew) ⟨wr.heap.size, 0, none⟩ 1 1 [.int .i64 (IntKind.i64.wrap (z1 + a)), .int .i64 (IntKind.i64.wrap (z2 + b))] rfl rfl (pair_new wr _ _ _) (one_pair _ _) (by unfold maxLen; omega) (by omega) (Nat.le_trans hsz (by simp)) ?_; intro v' w3 hown' hg'))
      all_goals (
        have R : AppRel (movP a b) l w v' (.int .i64 (k + 1 : Nat)) w3 := app_step hlt HX.out (IntWalk.i64_left _) (IntWalk.i64_left _) hown' ((below_drewN (hbr.alloc hsz _) 1).grown hg' (Nat.le_trans hsz (by simp)) (fun x hx => (hwn.lt x hx).1))
        clear hown' hg' hwn hbr
        go_simp
        go_wp2_with fail
        go_roundw
        case rel => exact R
        case measure => simp [intOf]; omega)
    · have HF := Lib.hid (app_done hlt hk hwn hbr)
      clear hwn hbr
      go_wp2_with fail
      go_ret
      exact HF.out

end Go.Proofs.Ytobijkjonnoeiaa
