/-
  Words and contracts that the proof leans on.
-/
import Derived.Test.YtejpbjglfjhjkaaM7
import Derived.Test.YtejpbjglfjhjkaaM4
import Derived.Test.YtejpbjglfjhjkaaM3
import Derived.Laws.Rows
namespace Go.Proofs.Ytejpbjglfjhjkaa
open Go.RowKit

/-- slices.Index. -/
def IxRelIdx (x : Int) (b : List Int) (m : Nat) (w : World) (v : Value) (wr : World) : Prop := ∃ k : Nat, k ≤ m ∧ v = .int .i64 (k : Int) ∧ wr = w ∧ ∀ y, y < k → b[y]? ≠ some x
def idxI (x : Int) (b : List Int) : Int := match at1 x b with | none => -1 | some k => (k : Int)

set_option maxRecDepth 100000 in
set_option maxHeartbeats 800000 in
theorem index_any (B : Option Addr) (m d : Nat) (b : List Int) (x : Int) (w : World) (hm : b.length = m) (hm' : m ≤ 1048576) (hb : Row w B (iv b)) : Calls Try.prog 35 #[.slice B m d, .int .i64 x] w fun e w' => e = .returned (.int .i64 (idxI x b)) ∧ w' = w := by
  have HM := Lib.hid hm
  clear hm
  go_enter Try.func35, Try.ntmps35
  go_wp2_with fail
  go_loopw [8] (fun v wr => IxRelIdx x b m w v wr) (fun v _ => m - (intOf v).toNat)
  case atStart => exact ⟨0, Nat.zero_le _, rfl, rfl, fun y h => by omega⟩
  case round =>
    obtain ⟨k, hk, rfl, rfl, hno⟩ := hrel
    have HNo := Lib.hid hno
    clear hno
    by_cases hlt : k < m
    · obtain ⟨g, o, rfl, hc⟩ := hb.int (k := k) (by rw [HM.out]; exact hlt)
      have HY : Hid (b[k]? = some (b[k]'(by rw [HM.out]; exact hlt))) := List.getElem?_eq_getElem _
      generalize b[k]'(by rw [HM.out]; exact hlt) = y at *
      by_cases heq : x = y
      · subst heq
        have HI : Hid (idxI x b = (k : Int)) := by
          show _ = _
          unfold idxI
          rw [at1_of HY.out (fun y hy => Nat.le_of_not_lt fun h => HNo.out y h hy)]
        go_wp2_with fail
        go_ret
        exact ⟨by rw [HI.out]; rfl, rfl⟩
      · have hz : (x == y) = false := by simpa using heq
        have HK : Hid (∀ z, z < k + 1 → b[z]? ≠ some x) := fun z hz' => by
          by_cases e : z = k
          · rw [e, HY.out]; intro e'; exact heq (Option.some.inj e').symm
          · exact HNo.out z (by omega)
        clear heq
        go_wp2_with fail
        go_roundw
        case rel => exact ⟨k + 1, by omega, by go_num, rfl, HK.out⟩
        case measure => simp [intOf]; omega
    · have HI : Hid (idxI x b = -1) := by
        show _ = _
        unfold idxI
        rw [at1_no (fun y hy => HNo.out y (by have := (List.getElem?_eq_some_iff.1 hy).1; rw [HM.out] at this; omega) hy)]
      go_wp2_with fail
      go_ret
      exact ⟨by rw [HI.out]; rfl, rfl⟩

end Go.Proofs.Ytejpbjglfjhjkaa
