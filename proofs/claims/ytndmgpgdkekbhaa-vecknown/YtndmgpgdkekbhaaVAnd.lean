/-
  The reference's And on words.
-/
import Derived.Test.YtndmgpgdkekbhaaVc3
import Derived.Deep.DeepCutAuto
namespace Go.Proofs.Ytndmgpgdkekbhaa
open Go.RowKit

/-- The carry into bit i. -/
def car (a b : Nat → Bool) : Nat → Bool
  | 0 => false
  | i + 1 => a i && b i || a i && car a b i || b i && car a b i
/-- What is lent to bit i. -/
def bor (a b : Nat → Bool) : Nat → Bool
  | 0 => false
  | i + 1 => !a i && b i || !a i && bor a b i || b i && bor a b i
def sumB (x y : List Nat) (j : Nat) : Bool := (bt x j != bt y j) != car (bt x) (bt y) j
def difB (x y : List Nat) (j : Nat) : Bool := (bt x j != bt y j) != bor (bt x) (bt y) j

def CarRel (N : Nat) (g cr : Nat → Bool) (w : World) (c i : Value) (wr : World) : Prop :=
  ∃ k : Nat, k ≤ N ∧ i = .int .i64 (k : Int) ∧ c = .bool (cr k) ∧ wr.rowIs w.heap.size 4 N (BitF g k) ∧ Below w.heap.size w wr

set_option maxRecDepth 100000 in
set_option maxHeartbeats 1600000 in
theorem and_any (A B : Option Addr) (n m c d : Nat) (x y : List Nat) (w : World) (hn : x.length = n) (hm : y.length = m) (hb : n ≤ 16384) (hb' : m ≤ 16384) (hr : Row w A (uv x)) (hs : Row w B (uv y)) (hx : Wd x) (hy : Wd y) :
    Calls Try.prog 23 #[.slice A n c, .slice B m d] w (MadeV (max n m) (fun j => bt x j && bt y j) w) := by
  have HN := Lib.hid hn
  have HM := Lib.hid hm
  obtain ⟨i0, hi, hz0, hz1, hz2⟩ := info_parts Try.infoBool
  obtain ⟨W, hW⟩ : ∃ W, max n m = W := ⟨_, rfl⟩
  rw [hW]
  have HW := Lib.hid hW
  have hWl : W ≤ 16384 := by omega
  clear hn hm hW
  go_enter Try.func23, Try.ntmps23
  go_upto_region 1 with (fail)
  go_cut [5] (fun v wx => v = .int .i64 (W : Nat) ∧ wx = w)
  case first =>
    have := HW.out
    by_cases hmn : n < m
    · obtain rfl : m = W := by omega
      go_wp2_with fail
      all_goals (go_meet; exact ⟨rfl, rfl⟩)
    · obtain rfl : n = W := by omega
      go_wp2_with fail
      all_goals (go_meet; first | exact ⟨rfl, rfl⟩ | exact ⟨by congr 1; omega, rfl⟩)
  case rest =>
    obtain ⟨rfl, hwc⟩ := hcut
    have hwc' := hwc.symm
    subst hwc'
    obtain ⟨N, hN⟩ : ∃ N, 64 * W = N := ⟨_, rfl⟩
    have eN : (64 : Int) * (W : Int) = (N : Int) := by omega
    have hNl : N ≤ 1048576 := by omega
    have HNN := Lib.hid hN
    clear hN
    go_wp2_with (at_make; refine wpList_make_row _ rfl _ _ 40 rfl 4 i0 (.bool false) Try.underlying40 hi hz0 hz1 rfl .i64 .i64 N rfl rfl (by rw [hz2]; omega) (by omega) ?_)
    have hT := bit_start N (fun j => bt x j && bt y j) w
    have hB0 : Below w.heap.size w (w.alloc (.cells (madeCells #[.bool false] N) 4)) := (Below.refl _ _).alloc (Nat.le_refl _) _
    generalize w.alloc (.cells (madeCells #[.bool false] N) 4) = w0 at *
    go_wp2_with fail
    go_loopw [7] (fun i wr => BitRel N (fun j => bt x j && bt y j) w i wr) (fun i _ => N - (intOf i).toNat)
    case atStart => exact ⟨0, Nat.zero_le _, rfl, hT, hB0⟩
    case round =>
      clear hT hB0
      obtain ⟨k, hk, rfl, hrow, hbw⟩ := hrel
      by_cases hlt : k < N
      · have t1 := hrow.cell hlt
        have t2 := hrow.frozen k
        have R : BitRel N (fun j => bt x j && bt y j) w (.int .i64 (k + 1 : Nat)) (wr.setCell ⟨w.heap.size, k, none⟩ (.bool ((fun j => bt x j && bt y j) k))) := ⟨k + 1, by omega, rfl, bit_set hrow, hbw.setCell (Nat.le_refl _) _⟩
        simp only at R
        go_wp2_with fail
        refine (get_any A n c (k : Int) x wr HN.out (i64_small (by omega)) (hr.below hbw) hx).mono ?_
        rintro e w' ⟨rfl, rfl⟩
        rw [btI_nat]
        generalize bt x k = p at *
        cases p with
        | false =>
          clear hrow hbw
          go_wp2_with fail
          go_roundw
          case rel => first | exact R | ((repeat apply Exists.intro); exact ⟨R, rfl⟩)
          case measure => simp [intOf]; omega
        | true =>
          go_wp2_with fail
          refine (get_any B m d (k : Int) y wr HM.out (i64_small (by omega)) (hs.below hbw) hy).mono ?_
          rintro e w' ⟨rfl, rfl⟩
          rw [btI_nat]
          clear hrow hbw
          generalize bt y k = q at *
          cases q
          all_goals (
            go_wp2_with fail
            go_roundw
            case rel => first | exact R | ((repeat apply Exists.intro); exact ⟨R, rfl⟩)
            case measure => simp [intOf]; omega)
      · have hkn : k = N := by omega
        subst hkn
        have rb := bit_row hrow
        clear hrow
        go_wp2_with fail
        refine (laid_any _ k k W _ wr (by simp) (by omega) (by omega) rb).mono ?_
        intro e w2 hv
        have hv' : MadeV W (fun j => bt x j && bt y j) w e w2 := by
          obtain ⟨v, xx, e1, e2, e3, e4, e5, e6⟩ := madeV_of hv hbw (fun j => bits_get k (fun j => bt x j && bt y j) j)
          refine ⟨v, xx, e1, e2, e3, fun j => ?_, e5, e6⟩
          rw [e4 j, HNN.out]
          by_cases hj : j < k
          · simp [hj]
          · simp [hj]
        obtain ⟨v, xx, rfl, hrest⟩ := hv'
        go_wp2_with fail
        go_ret
        exact ⟨v, xx, rfl, hrest⟩

end Go.Proofs.Ytndmgpgdkekbhaa
