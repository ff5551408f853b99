/-
  The reference's Add on words.
-/
import Derived.Test.YtndmgpgdkekbhaaVOr
import Derived.Deep.DeepCutAuto
namespace Go.Proofs.Ytndmgpgdkekbhaa
open Go.RowKit


set_option maxRecDepth 100000 in
set_option maxHeartbeats 1600000 in
theorem add_any (A B : Option Addr) (n m c d : Nat) (x y : List Nat) (w : World) (hn : x.length = n) (hm : y.length = m) (hb : n ≤ 16384) (hb' : m ≤ 16384) (hr : Row w A (uv x)) (hs : Row w B (uv y)) (hx : Wd x) (hy : Wd y) :
    Calls Try.prog 21 #[.slice A n c, .slice B m d] w (MadeV (max n m) (sumB x y) w) := by
  have HN := Lib.hid hn
  have HM := Lib.hid hm
  obtain ⟨i0, hi, hz0, hz1, hz2⟩ := info_parts Try.infoBool
  obtain ⟨W, hW⟩ : ∃ W, max n m = W := ⟨_, rfl⟩
  rw [hW]
  have HW := Lib.hid hW
  have hWl : W ≤ 16384 := by omega
  clear hn hm hW
  go_enter Try.func21, Try.ntmps21
  go_upto_region 1 with (fail)
  go_cut [5] (fun v wx => v = .int .i64 (W : Nat) ∧ wx = w)
  case first =>
    have := HW.out
    by_cases hmn : n < m
    · obtain rfl : m = W := by omega
      go_wp2_with fail
      all_goals (go_meet; exact ⟨rfl, rfl⟩)
    · obtain rfl : n = W := by omega
      go_wp2_with fail
      all_goals (go_meet; first | exact ⟨rfl, rfl⟩ | exact ⟨by congr 1; omega, rfl⟩)
  case rest =>
    obtain ⟨rfl, hwc⟩ := hcut
    have hwc' := hwc.symm
    subst hwc'
    obtain ⟨N, hN⟩ : ∃ N, 64 * W = N := ⟨_, rfl⟩
    have eN : (64 : Int) * (W : Int) = (N : Int) := by omega
    have hNl : N ≤ 1048576 := by omega
    have HNN := Lib.hid hN
    clear hN
    go_wp2_with (at_make; refine wpList_make_row _ rfl _ _ 40 rfl 4 i0 (.bool false) Try.underlying40 hi hz0 hz1 rfl .i64 .i64 N rfl rfl (by rw [hz2]; omega) (by omega) ?_)
    have hT := bit_start N (sumB x y) w
    have hB0 : Below w.heap.size w (w.alloc (.cells (madeCells #[.bool false] N) 4)) := (Below.refl _ _).alloc (Nat.le_refl _) _
    generalize w.alloc (.cells (madeCells #[.bool false] N) 4) = w0 at *
    go_wp2_with fail
    go_loopw [7, 8] (fun c i wr => CarRel N (sumB x y) (car (bt x) (bt y)) w c i wr) (fun _ i _ => N - (intOf i).toNat)
    case atStart => exact ⟨0, Nat.zero_le _, rfl, rfl, hT, hB0⟩
    case round =>
      clear hT hB0
      obtain ⟨k, hk, rfl, rfl, hrow, hbw⟩ := hrel
      by_cases hlt : k < N
      · have t1 := hrow.cell hlt
        have t2 := hrow.frozen k
        have R : CarRel N (sumB x y) (car (bt x) (bt y)) w (.bool ((car (bt x) (bt y)) (k + 1))) (.int .i64 (k + 1 : Nat)) (wr.setCell ⟨w.heap.size, k, none⟩ (.bool ((sumB x y) k))) := ⟨k + 1, by omega, rfl, rfl, bit_set hrow, hbw.setCell (Nat.le_refl _) _⟩
        simp only [sumB, car] at R
        go_wp2_with fail
        refine (get_any A n c (k : Int) x wr HN.out (i64_small (by omega)) (hr.below hbw) hx).mono ?_
        rintro e w' ⟨rfl, rfl⟩
        rw [btI_nat]
        go_wp2_with fail
        refine (get_any B m d (k : Int) y wr HM.out (i64_small (by omega)) (hs.below hbw) hy).mono ?_
        rintro e w' ⟨rfl, rfl⟩
        rw [btI_nat]
        clear hrow hbw
        generalize bt x k = p at *
        generalize bt y k = q at *
        generalize car (bt x) (bt y) k = r at *
        cases p <;> cases q <;> cases r
        all_goals (
          go_wp2_with fail
          go_roundw
          case rel => first | exact R | ((repeat apply Exists.intro); exact ⟨R, rfl⟩)
          case measure => simp [intOf]; omega)
      · have hkn : k = N := by omega
        subst hkn
        have rb := bit_row hrow
        clear hrow
        go_wp2_with fail
        refine (laid_any _ k k W _ wr (by simp) (by omega) (by omega) rb).mono ?_
        intro e w2 hv
        have hv' : MadeV W (sumB x y) w e w2 := by
          obtain ⟨v, xx, e1, e2, e3, e4, e5, e6⟩ := madeV_of hv hbw (fun j => bits_get k (sumB x y) j)
          refine ⟨v, xx, e1, e2, e3, fun j => ?_, e5, e6⟩
          rw [e4 j, HNN.out]
          by_cases hj : j < k
          · simp [hj]
          · simp [hj]
        obtain ⟨v, xx, rfl, hrest⟩ := hv'
        go_wp2_with fail
        go_ret
        exact ⟨v, xx, rfl, hrest⟩

end Go.Proofs.Ytndmgpgdkekbhaa
