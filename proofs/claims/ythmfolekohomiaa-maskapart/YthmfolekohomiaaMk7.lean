/-
  The reference's Mask.
-/
import Derived.Test.YthmfolekohomiaaMkP
import Derived.Test.YthmfolekohomiaaRefI
import Derived.Test.YthmfolekohomiaaVc3
namespace Go.Proofs.Ythmfolekohomiaa
open Go.RowKit

set_option maxRecDepth 100000 in
set_option maxHeartbeats 1600000 in
theorem refMask_any (A : Option Addr) (n c : Nat) (b : List Int) (sym : Int) (w : World) (hn : b.length = n) (hb : n ≤ 1048576) (hr : Row w A (iv b)) :
    Calls Try.prog 14 #[.slice A n c, .int .i64 sym] w (MadeV (wds n) (fun j => decide (b[j]? = some sym)) w) := by
  subst hn
  obtain ⟨i0, hi, hz0, hz1, hz2⟩ := info_parts Try.infoBool
  have hWl := wds_le b.length
  have HQ := Lib.hid (fun wr (h : Row wr (some ⟨w.heap.size, 0, none⟩) (lv ((List.range b.length).map fun j => decide (b[j]? = some sym)))) (hb' : Below w.heap.size w wr) => (laid_any (some ⟨w.heap.size, 0, none⟩) b.length b.length (wds b.length) _ wr (by simp) (by omega) (by omega) h).mono fun e w' hm => madeV_of (b' := fun j => decide (b[j]? = some sym)) hm hb' fun j => by
    rw [bits_get]
    by_cases hj : j < b.length
    · rw [decide_eq_true hj, Bool.true_and]
    · rw [decide_eq_false hj, Bool.false_and, List.getElem?_eq_none (by omega)]
      simp)
  have HWD := Lib.hid (fun wr => words_any b.length wr)
  generalize wds b.length = W at *
  go_enter Try.func14, Try.ntmps14
  go_wp2_with (at_make; refine wpList_make_row _ rfl _ _ 53 rfl 4 i0 (.bool false) Try.underlying53 hi hz0 hz1 rfl .i64 .i64 b.length rfl rfl (by rw [hz2]; omega) (by omega) ?_)
  have hT := bit_start b.length (fun j => decide (b[j]? = some sym)) w
  have hB0 : Below w.heap.size w (w.alloc (.cells (madeCells #[.bool false] b.length) 4)) := (Below.refl _ _).alloc (Nat.le_refl _) _
  generalize w.alloc (.cells (madeCells #[.bool false] b.length) 4) = w0 at *
  go_wp2_with fail
  go_loopw [6] (fun i wr => BitRel b.length (fun j => decide (b[j]? = some sym)) w i wr) (fun i _ => b.length - (intOf i).toNat)
  case atStart => exact ⟨0, Nat.zero_le _, rfl, hT, hB0⟩
  case round =>
    clear hT hB0
    obtain ⟨k, hk, rfl, hT, hB⟩ := hrel
    by_cases hlt : k < b.length
    · obtain ⟨g, o, rfl, hc⟩ := (hr.below hB).int hlt
      have hT1 := Lib.hid (bit_set hT)
      have hBl := hT.lt
      have hcT := hT.cell hlt
      have hfT := hT.frozen k
      have HS : Hid ((decide (b[k]? = some sym)) = (b[k] == sym)) := by
        show _ = _
        rw [List.getElem?_eq_getElem hlt]
        by_cases h : b[k] = sym
        · rw [h]
          simp
        · rw [decide_eq_false (fun e => h (Option.some.inj e)), (beq_eq_false_iff_ne).2 h]
      have HB := Lib.hid hB
      clear hT hB hr
      generalize b[k] = x at *
      go_wp2_with fail
      go_roundw
      case rel => exact ⟨k + 1, by omega, by go_num, by rw [← HS.out]; exact hT1.out, HB.out.setCell (Nat.le_refl _) _⟩
      case measure => simp [intOf]; omega
    · have hkb : k = b.length := by omega
      subst hkb
      have HL := Lib.hid (HQ.out _ (bit_row hT) hB)
      clear hT hB hr HQ
      go_wp2_with fail
      refine (HWD.out _).mono ?_
      rintro e w1 ⟨rfl, rfl⟩
      go_wp2_with fail
      refine HL.out.mono ?_
      intro e w2 hm
      obtain ⟨v, x, rfl, r⟩ := hm
      have HR := Lib.hid (⟨v, x, rfl, r⟩ : MadeV W (fun j => decide (b[j]? = some sym)) w (.returned v) w2)
      clear r
      go_wp2_with fail
      go_ret
      exact HR.out

end Go.Proofs.Ythmfolekohomiaa
