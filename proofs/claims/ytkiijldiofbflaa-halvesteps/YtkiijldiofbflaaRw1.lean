/-
  Contract of package rows' fillFront: a row of the table from the row above it.
-/
import Derived.Test.YtkiijldiofbflaaFa1
import Derived.BigRegion
namespace Go.Proofs.Ytkiijldiofbflaa
open Go.RowKit

set_option maxRecDepth 100000 in
set_option maxHeartbeats 1600000 in
theorem fillFront_any (x : Int) (A : Option Addr) (m d g h c1 c2 : Nat) (b : List Int) (G F : Nat → Int) (w0 w : World) (hm : b.length = m) (hm' : m ≤ 1048576) (hb : Row w0 A (iv b)) (h0 : Below w0.heap.size w0 w) (hg0 : w0.heap.size ≤ g) (hgh : g ≠ h) (rG : IsRow w h (m + 1) G) (rF : IsRow w g (m + 1) F) :
    Calls Try.prog 33 #[.int .i64 x, .slice A m d, .slice (some ⟨h, 0, none⟩) (m + 1) c1, .slice (some ⟨g, 0, none⟩) (m + 1) c2] w fun e w' => (∃ v, e = .returned v) ∧ IsRow w' g (m + 1) (fillA x b G F m) ∧ w.grownBy w' (some g) := by
  have HM := Lib.hid hm
  clear hm
  have hs := h0.size
  go_enter Try.func33, Try.ntmps33
  go_wp2_with fail
  go_loopw [12] (fun i wr => FaRel x b h g m G F w i wr) (fun i _ => m - (intOf i).toNat)
  case atStart => exact ⟨0, Nat.zero_le _, rfl, rF, rG, World.grownBy.refl _ _⟩
  case round =>
    clear rF rG
    obtain ⟨k, hk, rfl, h1, h2, h3⟩ := hrel
    by_cases hlt : k < m
    · obtain ⟨gb, ob, rfl, hc⟩ := (hb.below (h0.grown h3 hs (fun r e => by cases e; exact hg0))).int (k := k) (by rw [HM.out]; exact hlt)
      have HY : Hid (b[k]? = some (b[k]'(by rw [HM.out]; exact hlt))) := List.getElem?_eq_getElem _
      generalize b[k]'(by rw [HM.out]; exact hlt) = y at *
      have R := Lib.hid (fun v hv => fa_step (v := v) hlt HY.out hgh h1 h2 h3 hv)
      have t1 := World.rowIs.cell h2 (i := k) (by omega)
      have t2 := World.rowIs.cell h2 (i := k + 1) (by omega)
      have t3 := World.rowIs.cell h1 (i := k) (by omega)
      have t4 := World.rowIs.cell h1 (i := k + 1) (by omega)
      have t5 := World.rowIs.frozen h1 (k + 1)
      clear h1 h2 h3 hb h0
      generalize fillA x b G F k = F' at *
      by_cases heq : x = y
      · subst heq
        have HV : Hid (stepA x G F' (k, x) (k + 1) = IntKind.i64.wrap (G k + 1)) := by show _ = _; simp [stepA]
        go_wp2_with fail
        go_roundw
        case rel => exact R.out _ (by rw [HV.out]; first | rfl | simp [wrap64, IntKind.wrap_i64] | (rw [IntKind.wrap_i64]; rfl))
        case measure => simp [intOf]; omega
      · have hz : (y == x) = false := by simpa using Ne.symm heq
        have HV : Hid (stepA x G F' (k, y) (k + 1) = if G (k + 1) < F' k then F' k else G (k + 1)) := by show _ = _; simp [stepA, heq]
        clear heq
        by_cases hXY : G (k + 1) < F' k
        · rw [if_pos hXY] at HV
          go_wp2_with fail
          go_region
          go_wp2_with fail
          go_roundw
          case rel => exact (R.out _ (by rw [HV.out])).drew
          case measure => simp [intOf]; omega
        · rw [if_neg hXY] at HV
          go_wp2_with fail
          go_region
          go_wp2_with fail
          go_roundw
          case rel => exact (R.out _ (by rw [HV.out])).drew
          case measure => simp [intOf]; omega
    · obtain rfl : k = m := by omega
      have HF := Lib.hid h1
      have HG := Lib.hid h3
      clear h1 h2 h3
      go_wp2_with fail
      go_end0
      exact ⟨⟨_, rfl⟩, HF.out, HG.out⟩

end Go.Proofs.Ytkiijldiofbflaa
