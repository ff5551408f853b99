/-
  Words and contracts that the proof leans on.
-/
import Derived.Test.YtokgabijjgndgaaM17
import Derived.Deep.DeepCutAuto
namespace Go.Proofs.Ytokgabijjgndgaa
open Go.RowKit

/-- The carry into bit i. -/
def car (a b : Nat → Bool) : Nat → Bool
  | 0 => false
  | i + 1 => a i && b i || a i && car a b i || b i && car a b i
/-- What is lent to bit i. -/
def bor (a b : Nat → Bool) : Nat → Bool
  | 0 => false
  | i + 1 => !a i && b i || !a i && bor a b i || b i && bor a b i
def sumB (x y : List Nat) (j : Nat) : Bool := (bt x j != bt y j) != car (bt x) (bt y) j
def CarRel (N : Nat) (g cr : Nat → Bool) (w : World) (c i : Value) (wr : World) : Prop :=
  ∃ k : Nat, k ≤ N ∧ i = .int .i64 (k : Int) ∧ c = .bool (cr k) ∧ wr.rowIs w.heap.size 4 N (BitF g k) ∧ Below w.heap.size w wr

set_option maxRecDepth 100000 in
set_option maxHeartbeats 1600000 in
theorem and_any (A B : Option Addr) (n m c d : Nat) (x y : List Nat) (w : World) (hn : x.length = n) (hm : y.length = m) (hb : n ≤ 16384) (hb' : m ≤ 16384) (hr : Row w A (uv x)) (hs : Row w B (uv y)) (hx : Wd x) (hy : Wd y) :
    Calls Try.prog 33 #[.slice A n c, .slice B m d] w (MadeV (max n m) (fun j => bt x j && bt y j) w) := by
  have HN := Lib.hid hn
  have HM := Lib.hid hm
  obtain ⟨i0, hi, hz0, hz1, hz2⟩ := info_parts Try.infoBool
  obtain ⟨W, hW⟩ : ∃ W, max n m = W := ⟨_, rfl⟩
  rw [hW]
  have HW := Lib.hid hW
  have hWl : W ≤ 16384 := by omega
  clear hn hm hW
  go_enter Try.func33, Try.ntmps33
  go_upto_region 1 with (fail)
  go_cut [5] (fun v wx => v = .int .i64 (W : Nat) ∧ wx = w)
  case first =>
    have := HW.out
    by_cases hmn : n < m
    · obtain rfl : m = W := by omega
      go_wp2_with fail
      all_goals (go_meet; exact ⟨rfl, rfl⟩)
    · obtain rfl : n = W := by omega
      go_wp2_with fail
      all_goals (go_meet; first | exact ⟨rfl, rfl⟩ | exact ⟨by congr 1; omega, rfl⟩)
  case rest =>
    obtain ⟨rfl, hwc⟩ := hcut
    have hwc' := hwc.symm
    subst hwc'
    obtain ⟨N, hN⟩ : ∃ N, 64 * W = N := ⟨_, rfl⟩
    have eN : (64 : Int) * (W : Int) = (N : Int) := by omega
    have hNl : N ≤ 1048576 := by omega
    have HNN := Lib.hid hN
    clear hN
    go_wp2_with (at_make; refine wpList_make_row _ rfl _ _ 49 rfl 4 i0 (.bool false) Try.underlying49 hi hz0 hz1 rfl .i64 .i64 N rfl rfl (by rw [hz2]; omega) (by omega) ?_)
    have hT := bit_start N (fun j => bt x j && bt y j) w
    have hB0 : Below w.heap.size w (w.alloc (.cells (madeCells #[.bool false] N) 4)) := (Below.refl _ _).alloc (Nat.le_refl _) _
    generalize w.alloc (.cells (madeCells #[.bool false] N) 4) = w0 at *
    go_wp2_with fail
    go_loopw [7] (fun i wr => BitRel N (fun j => bt x j && bt y j) w i wr) (fun i _ => N - (intOf i).toNat)
    case atStart => exact ⟨0, Nat.zero_le _, rfl, hT, hB0⟩
    case round =>
      clear hT hB0
      obtain ⟨k, hk, rfl, hrow, hbw⟩ := hrel
      by_cases hlt : k < N
      · have t1 := hrow.cell hlt
        have t2 := hrow.frozen k
        have R : BitRel N (fun j => bt x j && bt y j) w (.int .i64 (k + 1 : Nat)) (wr.setCell ⟨w.heap.size, k, none⟩ (.bool ((fun j => bt x j && bt y j) k))) := ⟨k + 1, by omega, rfl, bit_setVc3 hrow, hbw.setCell (Nat.le_refl _) _⟩
        simp only at R
        go_wp2_with fail
        refine (get_any A n c (k : Int) x wr HN.out (i64_small (by omega)) (hr.below hbw) hx).mono ?_
        rintro e w' ⟨rfl, rfl⟩
        rw [btI_nat]
        generalize bt x k = p at *
        cases p with
        | false =>
          clear hrow hbw
          go_wp2_with fail
          go_roundw
          case rel => first | exact R | ((repeat apply Exists.intro); exact ⟨R, rfl⟩)
          case measure => simp [intOf]; omega
        | true =>
          go_wp2_with fail
          refine (get_any B m d (k : Int) y wr HM.out (i64_small (by omega)) (hs.below hbw) hy).mono ?_
          rintro e w' ⟨rfl, rfl⟩
          rw [btI_nat]
          clear hrow hbw
          generalize bt y k = q at *
          cases q
          all_goals (
            go_wp2_with fail
            go_roundw
            case rel => first | exact R | ((repeat apply Exists.intro); exact ⟨R, rfl⟩)
            case measure => simp [intOf]; omega)
      · have hkn : k = N := by omega
        subst hkn
        have rb := bit_row hrow
        clear hrow
        go_wp2_with fail
        refine (laid_any _ k k W _ wr (by simp) (by omega) (by omega) rb).mono ?_
        intro e w2 hv
        have hv' : MadeV W (fun j => bt x j && bt y j) w e w2 := by
          obtain ⟨v, xx, e1, e2, e3, e4, e5, e6⟩ := madeV_of hv hbw (fun j => bits_get k (fun j => bt x j && bt y j) j)
          refine ⟨v, xx, e1, e2, e3, fun j => ?_, e5, e6⟩
          rw [e4 j, HNN.out]
          by_cases hj : j < k
          · simp [hj]
          · simp [hj]
        obtain ⟨v, xx, rfl, hrest⟩ := hv'
        go_wp2_with fail
        go_ret
        exact ⟨v, xx, rfl, hrest⟩

end Go.Proofs.Ytokgabijjgndgaa

namespace Go.Proofs.Ytokgabijjgndgaa
open Go.RowKit


set_option maxRecDepth 100000 in
set_option maxHeartbeats 1600000 in
theorem or_any (A B : Option Addr) (n m c d : Nat) (x y : List Nat) (w : World) (hn : x.length = n) (hm : y.length = m) (hb : n ≤ 16384) (hb' : m ≤ 16384) (hr : Row w A (uv x)) (hs : Row w B (uv y)) (hx : Wd x) (hy : Wd y) :
    Calls Try.prog 34 #[.slice A n c, .slice B m d] w (MadeV (max n m) (fun j => bt x j || bt y j) w) := by
  have HN := Lib.hid hn
  have HM := Lib.hid hm
  obtain ⟨i0, hi, hz0, hz1, hz2⟩ := info_parts Try.infoBool
  obtain ⟨W, hW⟩ : ∃ W, max n m = W := ⟨_, rfl⟩
  rw [hW]
  have HW := Lib.hid hW
  have hWl : W ≤ 16384 := by omega
  clear hn hm hW
  go_enter Try.func34, Try.ntmps34
  go_upto_region 1 with (fail)
  go_cut [5] (fun v wx => v = .int .i64 (W : Nat) ∧ wx = w)
  case first =>
    have := HW.out
    by_cases hmn : n < m
    · obtain rfl : m = W := by omega
      go_wp2_with fail
      all_goals (go_meet; exact ⟨rfl, rfl⟩)
    · obtain rfl : n = W := by omega
      go_wp2_with fail
      all_goals (go_meet; first | exact ⟨rfl, rfl⟩ | exact ⟨by congr 1; omega, rfl⟩)
  case rest =>
    obtain ⟨rfl, hwc⟩ := hcut
    have hwc' := hwc.symm
    subst hwc'
    obtain ⟨N, hN⟩ : ∃ N, 64 * W = N := ⟨_, rfl⟩
    have eN : (64 : Int) * (W : Int) = (N : Int) := by omega
    have hNl : N ≤ 1048576 := by omega
    have HNN := Lib.hid hN
    clear hN
    go_wp2_with (at_make; refine wpList_make_row _ rfl _ _ 49 rfl 4 i0 (.bool false) Try.underlying49 hi hz0 hz1 rfl .i64 .i64 N rfl rfl (by rw [hz2]; omega) (by omega) ?_)
    have hT := bit_start N (fun j => bt x j || bt y j) w
    have hB0 : Below w.heap.size w (w.alloc (.cells (madeCells #[.bool false] N) 4)) := (Below.refl _ _).alloc (Nat.le_refl _) _
    generalize w.alloc (.cells (madeCells #[.bool false] N) 4) = w0 at *
    go_wp2_with fail
    go_loopw [7] (fun i wr => BitRel N (fun j => bt x j || bt y j) w i wr) (fun i _ => N - (intOf i).toNat)
    case atStart => exact ⟨0, Nat.zero_le _, rfl, hT, hB0⟩
    case round =>
      clear hT hB0
      obtain ⟨k, hk, rfl, hrow, hbw⟩ := hrel
      by_cases hlt : k < N
      · have t1 := hrow.cell hlt
        have t2 := hrow.frozen k
        have R : BitRel N (fun j => bt x j || bt y j) w (.int .i64 (k + 1 : Nat)) (wr.setCell ⟨w.heap.size, k, none⟩ (.bool ((fun j => bt x j || bt y j) k))) := ⟨k + 1, by omega, rfl, bit_setVc3 hrow, hbw.setCell (Nat.le_refl _) _⟩
        simp only at R
        go_wp2_with fail
        refine (get_any A n c (k : Int) x wr HN.out (i64_small (by omega)) (hr.below hbw) hx).mono ?_
        rintro e w' ⟨rfl, rfl⟩
        rw [btI_nat]
        generalize bt x k = p at *
        cases p with
        | true =>
          clear hrow hbw
          go_wp2_with fail
          go_roundw
          case rel => first | exact R | ((repeat apply Exists.intro); exact ⟨R, rfl⟩)
          case measure => simp [intOf]; omega
        | false =>
          go_wp2_with fail
          refine (get_any B m d (k : Int) y wr HM.out (i64_small (by omega)) (hs.below hbw) hy).mono ?_
          rintro e w' ⟨rfl, rfl⟩
          rw [btI_nat]
          clear hrow hbw
          generalize bt y k = q at *
          cases q
          all_goals (
            go_wp2_with fail
            go_roundw
            case rel => first | exact R | ((repeat apply Exists.intro); exact ⟨R, rfl⟩)
            case measure => simp [intOf]; omega)
      · have hkn : k = N := by omega
        subst hkn
        have rb := bit_row hrow
        clear hrow
        go_wp2_with fail
        refine (laid_any _ k k W _ wr (by simp) (by omega) (by omega) rb).mono ?_
        intro e w2 hv
        have hv' : MadeV W (fun j => bt x j || bt y j) w e w2 := by
          obtain ⟨v, xx, e1, e2, e3, e4, e5, e6⟩ := madeV_of hv hbw (fun j => bits_get k (fun j => bt x j || bt y j) j)
          refine ⟨v, xx, e1, e2, e3, fun j => ?_, e5, e6⟩
          rw [e4 j, HNN.out]
          by_cases hj : j < k
          · simp [hj]
          · simp [hj]
        obtain ⟨v, xx, rfl, hrest⟩ := hv'
        go_wp2_with fail
        go_ret
        exact ⟨v, xx, rfl, hrest⟩

end Go.Proofs.Ytokgabijjgndgaa

namespace Go.Proofs.Ytokgabijjgndgaa
open Go.RowKit


set_option maxRecDepth 100000 in
set_option maxHeartbeats 1600000 in
theorem add_any (A B : Option Addr) (n m c d : Nat) (x y : List Nat) (w : World) (hn : x.length = n) (hm : y.length = m) (hb : n ≤ 16384) (hb' : m ≤ 16384) (hr : Row w A (uv x)) (hs : Row w B (uv y)) (hx : Wd x) (hy : Wd y) :
    Calls Try.prog 35 #[.slice A n c, .slice B m d] w (MadeV (max n m) (sumB x y) w) := by
  have HN := Lib.hid hn
  have HM := Lib.hid hm
  obtain ⟨i0, hi, hz0, hz1, hz2⟩ := info_parts Try.infoBool
  obtain ⟨W, hW⟩ : ∃ W, max n m = W := ⟨_, rfl⟩
  rw [hW]
  have HW := Lib.hid hW
  have hWl : W ≤ 16384 := by omega
  clear hn hm hW
  go_enter Try.func35, Try.ntmps35
  go_upto_region 1 with (fail)
  go_cut [5] (fun v wx => v = .int .i64 (W : Nat) ∧ wx = w)
  case first =>
    have := HW.out
    by_cases hmn : n < m
    · obtain rfl : m = W := by omega
      go_wp2_with fail
      all_goals (go_meet; exact ⟨rfl, rfl⟩)
    · obtain rfl : n = W := by omega
      go_wp2_with fail
      all_goals (go_meet; first | exact ⟨rfl, rfl⟩ | exact ⟨by congr 1; omega, rfl⟩)
  case rest =>
    obtain ⟨rfl, hwc⟩ := hcut
    have hwc' := hwc.symm
    subst hwc'
    obtain ⟨N, hN⟩ : ∃ N, 64 * W = N := ⟨_, rfl⟩
    have eN : (64 : Int) * (W : Int) = (N : Int) := by omega
    have hNl : N ≤ 1048576 := by omega
    have HNN := Lib.hid hN
    clear hN
    go_wp2_with (at_make; refine wpList_make_row _ rfl _ _ 49 rfl 4 i0 (.bool false) Try.underlying49 hi hz0 hz1 rfl .i64 .i64 N rfl rfl (by rw [hz2]; omega) (by omega) ?_)
    have hT := bit_start N (sumB x y) w
    have hB0 : Below w.heap.size w (w.alloc (.cells (madeCells #[.bool false] N) 4)) := (Below.refl _ _).alloc (Nat.le_refl _) _
    generalize w.alloc (.cells (madeCells #[.bool false] N) 4) = w0 at *
    go_wp2_with fail
    go_loopw [7, 8] (fun c i wr => CarRel N (sumB x y) (car (bt x) (bt y)) w c i wr) (fun _ i _ => N - (intOf i).toNat)
    case atStart => exact ⟨0, Nat.zero_le _, rfl, rfl, hT, hB0⟩
    case round =>
      clear hT hB0
      obtain ⟨k, hk, rfl, rfl, hrow, hbw⟩ := hrel
      by_cases hlt : k < N
      · have t1 := hrow.cell hlt
        have t2 := hrow.frozen k
        have R : CarRel N (sumB x y) (car (bt x) (bt y)) w (.bool ((car (bt x) (bt y)) (k + 1))) (.int .i64 (k + 1 : Nat)) (wr.setCell ⟨w.heap.size, k, none⟩ (.bool ((sumB x y) k))) := ⟨k + 1, by omega, rfl, rfl, bit_setVc3 hrow, hbw.setCell (Nat.le_refl _) _⟩
        simp only [sumB, car] at R
        go_wp2_with fail
        refine (get_any A n c (k : Int) x wr HN.out (i64_small (by omega)) (hr.below hbw) hx).mono ?_
        rintro e w' ⟨rfl, rfl⟩
        rw [btI_nat]
        go_wp2_with fail
        refine (get_any B m d (k : Int) y wr HM.out (i64_small (by omega)) (hs.below hbw) hy).mono ?_
        rintro e w' ⟨rfl, rfl⟩
        rw [btI_nat]
        clear hrow hbw
        generalize bt x k = p at *
        generalize bt y k = q at *
        generalize car (bt x) (bt y) k = r at *
        cases p <;> cases q <;> cases r
        all_goals (
          go_wp2_with fail
          go_roundw
          case rel => first | exact R | ((repeat apply Exists.intro); exact ⟨R, rfl⟩)
          case measure => simp [intOf]; omega)
      · have hkn : k = N := by omega
        subst hkn
        have rb := bit_row hrow
        clear hrow
        go_wp2_with fail
        refine (laid_any _ k k W _ wr (by simp) (by omega) (by omega) rb).mono ?_
        intro e w2 hv
        have hv' : MadeV W (sumB x y) w e w2 := by
          obtain ⟨v, xx, e1, e2, e3, e4, e5, e6⟩ := madeV_of hv hbw (fun j => bits_get k (sumB x y) j)
          refine ⟨v, xx, e1, e2, e3, fun j => ?_, e5, e6⟩
          rw [e4 j, HNN.out]
          by_cases hj : j < k
          · simp [hj]
          · simp [hj]
        obtain ⟨v, xx, rfl, hrest⟩ := hv'
        go_wp2_with fail
        go_ret
        exact ⟨v, xx, rfl, hrest⟩

end Go.Proofs.Ytokgabijjgndgaa

namespace Go.Proofs.Ytokgabijjgndgaa
open Go.RowKit


end Go.Proofs.Ytokgabijjgndgaa

namespace Go.Proofs.Ytokgabijjgndgaa
open Go.RowKit

/-- How many of the bits below n are 1. -/
def cnt (g : Nat → Bool) : Nat → Nat
  | 0 => 0
  | i + 1 => cnt g i + (if g i = true then 1 else 0)
theorem cnt_leVc5 (g : Nat → Bool) : ∀ n, cnt g n ≤ n
  | 0 => Nat.le_refl _
  | n + 1 => by have := cnt_leVc5 g n; unfold cnt; split <;> omega

set_option maxHeartbeats 800000 in
theorem sameW_len (A A' : Option Addr) (n n' c c' : Nat) (ls ms : List Nat) (w : World) (hn : ls.length = n) (hn' : ms.length = n') (hb : n ≤ 9223372036854775807) (hr : Row w A (uv ls)) (hr' : Row w A' (uv ms)) (he : ls.length = ms.length) :
    Calls Try.prog 14 #[.slice A n c, .slice A' n' c'] w fun e w' => e = .returned (.bool (decide (ls = ms))) ∧ ∃ q, w' = w.drewN q := by
  subst hn
  subst hn'
  have HE := Lib.hid he
  rw [← he]
  clear he
  go_enter Try.func14, Try.ntmps14
  go_wp2_with fail
  go_loopw [5] (fun i wr => ∃ k q : Nat, k ≤ ls.length ∧ i = .int .i64 k ∧ wr = w.drewN q ∧ Hid (ls.take k = ms.take k)) (fun i _ => ls.length - (intOf i).toNat)
  case atStart => exact ⟨0, 0, Nat.zero_le _, rfl, rfl, by show _ = _; simp⟩
  case round =>
    obtain ⟨k, q, hk, rfl, rfl, hkk⟩ := hrel
    by_cases hlt : k < ls.length
    · have hlt' : k < ms.length := by rw [← HE.out]; exact hlt
      obtain ⟨g, o, rfl, hc⟩ := hr.word hlt
      obtain ⟨g', o', rfl, hc'⟩ := hr'.word hlt'
      have HS := Lib.hid (List.take_succ_eq_append_getElem hlt)
      have HS' := Lib.hid (List.take_succ_eq_append_getElem hlt')
      have HX : Hid (ls[k]? = some ls[k]) := List.getElem?_eq_getElem hlt
      have HX' : Hid (ms[k]? = some ms[k]) := List.getElem?_eq_getElem hlt'
      generalize ls[k] = x at *
      generalize ms[k] = y at *
      clear hlt' hr hr'
      by_cases heq : x = y
      · subst heq
        go_wp2_with fail
        go_quiet (fail)
        go_wp2_with fail
        go_roundw
        case rel => exact ⟨k + 1, _, by omega, by go_num, rfl, by show _ = _; rw [HS.out, HS'.out, hkk.out]⟩
        case measure => simp [intOf]; omega
      · have hz : ((x : Int) != (y : Int)) = true := by simp; omega
        have hz' : (x != y) = true := by simpa using heq
        have hfin : decide (ls = ms) = false := by
          rw [decide_eq_false_iff_not]
          intro e
          apply heq
          have e1 := HX.out
          rw [e, HX'.out] at e1
          exact (Option.some.inj e1).symm
        have HF := Lib.hid hfin
        clear hfin
        go_wp2_with fail
        go_quiet (fail)
        go_wp2_with fail
        go_ret
        exact ⟨by rw [HF.out]; rfl, q + nq, by rw [World.drewN_drewN]⟩
    · have hfin : decide (ls = ms) = true := by
        have e := hkk.out
        rw [List.take_of_length_le (by omega), List.take_of_length_le (by rw [← HE.out]; omega)] at e
        simpa using e
      have HF := Lib.hid hfin
      clear hfin
      go_wp2_with fail
      go_ret
      exact ⟨by rw [HF.out]; rfl, _, rfl⟩

theorem sameW_any (A A' : Option Addr) (n n' c c' : Nat) (ls ms : List Nat) (w : World) (hn : ls.length = n) (hn' : ms.length = n') (hb : n ≤ 9223372036854775807) (hr : Row w A (uv ls)) (hr' : Row w A' (uv ms)) :
    Calls Try.prog 14 #[.slice A n c, .slice A' n' c'] w fun e w' => e = .returned (.bool (decide (ls = ms))) ∧ ∃ q, w' = w.drewN q := by
  by_cases he : ls.length = ms.length
  · exact sameW_len A A' n n' c c' ls ms w hn hn' hb hr hr' he
  · subst hn
    subst hn'
    have hfin : decide (ls = ms) = false := by
      rw [decide_eq_false_iff_not]
      intro e
      exact he (congrArg List.length e)
    rw [hfin]
    have hz : ((ls.length : Int) != (ms.length : Int)) = true := by simp; omega
    clear hfin he
    go_enter Try.func14, Try.ntmps14
    go_wp2_with fail
    go_ret
    exact ⟨rfl, 0, rfl⟩

end Go.Proofs.Ytokgabijjgndgaa

namespace Go.Proofs.Ytokgabijjgndgaa

/-- The number that the words are. -/
def val : List Nat → Nat
  | [] => 0
  | u :: x => u + 2 ^ 64 * val x
theorem val_bit : ∀ (x : List Nat), Wd x → ∀ j, (val x).testBit j = bt x j
  | [], _, j => by simp [val, bt]
  | u :: x, h, j => by
    have hu : u < 2 ^ 64 := h u List.mem_cons_self
    have ih := val_bit x (fun v hv => h v (List.mem_cons_of_mem _ hv))
    rw [val, Nat.add_comm, Nat.testBit_two_pow_mul_add _ hu]
    unfold bt
    split
    · rw [show j / 64 = 0 by omega, show j % 64 = j by omega]
      rfl
    · rw [ih, bt, show j / 64 = (j - 64) / 64 + 1 by omega, show (j - 64) % 64 = j % 64 by omega]
      rfl
theorem mod_step (a j : Nat) : a % 2 ^ (j + 1) = a % 2 ^ j + (if a.testBit j = true then 2 ^ j else 0) := by
  rw [Nat.pow_succ, Nat.mod_mul, Nat.testBit_eq_decide_div_mod_eq]
  by_cases g : a / 2 ^ j % 2 = 1
  · simp [g]
  · have g0 : a / 2 ^ j % 2 = 0 := by omega
    simp [g0]
theorem car_eq (a b : Nat) : ∀ j, car a.testBit b.testBit j = decide (2 ^ j ≤ a % 2 ^ j + b % 2 ^ j)
  | 0 => by simp [car, Nat.mod_one]
  | j + 1 => by
    rw [car, car_eq a b j, mod_step a j, mod_step b j]
    have hA : a % 2 ^ j < 2 ^ j := Nat.mod_lt _ (Nat.two_pow_pos j)
    have hB : b % 2 ^ j < 2 ^ j := Nat.mod_lt _ (Nat.two_pow_pos j)
    rw [Nat.pow_succ]
    generalize a % 2 ^ j = A at *
    generalize b % 2 ^ j = B at *
    generalize 2 ^ j = P at *
    by_cases h : P ≤ A + B
    · rw [decide_eq_true h]
      cases a.testBit j <;> cases b.testBit j <;> simp <;> omega
    · rw [decide_eq_false h]
      cases a.testBit j <;> cases b.testBit j <;> simp <;> omega
theorem add_bits (a b j : Nat) : (a + b).testBit j = ((a.testBit j != b.testBit j) != car a.testBit b.testBit j) := by
  rw [car_eq]
  have h := mod_step (a + b) j
  have ha := mod_step a j
  have hb := mod_step b j
  have hA : a % 2 ^ j < 2 ^ j := Nat.mod_lt _ (Nat.two_pow_pos j)
  have hB : b % 2 ^ j < 2 ^ j := Nat.mod_lt _ (Nat.two_pow_pos j)
  have e1 : (a + b) % 2 ^ (j + 1) = (a % 2 ^ (j + 1) + b % 2 ^ (j + 1)) % 2 ^ (j + 1) := Nat.add_mod _ _ _
  have e2 : (a + b) % 2 ^ j = (a % 2 ^ j + b % 2 ^ j) % 2 ^ j := Nat.add_mod _ _ _
  rw [e1, e2, ha, hb, Nat.pow_succ] at h
  generalize a % 2 ^ j = A at *
  generalize b % 2 ^ j = B at *
  have hP := Nat.two_pow_pos j
  generalize 2 ^ j = P at *
  have mod1 : ∀ n, n < P → n % P = n := fun n h => Nat.mod_eq_of_lt h
  have mod2 : ∀ n, P ≤ n → n < P * 2 → n % P = n - P := fun n h1 h2 => by rw [Nat.mod_eq_sub_mod h1, Nat.mod_eq_of_lt (by omega)]
  have mod3 : ∀ n, n < P * 2 → n % (P * 2) = n := fun n h => Nat.mod_eq_of_lt h
  have mod4 : ∀ n, P * 2 ≤ n → n < P * 4 → n % (P * 2) = n - P * 2 := fun n h1 h2 => by rw [Nat.mod_eq_sub_mod h1, Nat.mod_eq_of_lt (by omega)]
  by_cases hc : P ≤ A + B
  · rw [decide_eq_true hc]
    rw [mod2 (A + B) hc (by omega)] at h
    cases hx : a.testBit j <;> cases hy : b.testBit j <;> cases hz : (a + b).testBit j <;> rw [hx, hy, hz] at h <;> simp at h ⊢
    all_goals first
      | (rw [mod3 _ (by omega)] at h; omega)
      | (rw [mod4 _ (by omega) (by omega)] at h; omega)
  · rw [decide_eq_false hc]
    rw [mod1 (A + B) (by omega)] at h
    cases hx : a.testBit j <;> cases hy : b.testBit j <;> cases hz : (a + b).testBit j <;> rw [hx, hy, hz] at h <;> simp at h ⊢
    all_goals first
      | (rw [mod3 _ (by omega)] at h; omega)
      | (rw [mod4 _ (by omega) (by omega)] at h; omega)

/-- A difference's bits: d + b is a, below bit M. -/
theorem sub_bits {a b d M : Nat} (h : ∀ j, j < M → (d + b).testBit j = a.testBit j) : ∀ j, j ≤ M → (car d.testBit b.testBit j = bor a.testBit b.testBit j ∧ (j < M → d.testBit j = ((a.testBit j != b.testBit j) != bor a.testBit b.testBit j))) := by
  have bit : ∀ j, j < M → car d.testBit b.testBit j = bor a.testBit b.testBit j → d.testBit j = ((a.testBit j != b.testBit j) != bor a.testBit b.testBit j) := by
    intro j hj e
    have h1 := h j hj
    rw [add_bits, e] at h1
    revert h1
    generalize bor a.testBit b.testBit j = Z
    generalize d.testBit j = D
    generalize a.testBit j = X
    generalize b.testBit j = Y
    cases D <;> cases X <;> cases Y <;> cases Z <;> simp
  intro j
  induction j with
  | zero => exact fun _ => ⟨rfl, fun hj => bit 0 hj rfl⟩
  | succ j ih =>
    intro hj
    obtain ⟨c1, c2⟩ := ih (by omega)
    have c3 := c2 (by omega)
    have e : car d.testBit b.testBit (j + 1) = bor a.testBit b.testBit (j + 1) := by
      rw [car, bor, c1, c3]
      cases a.testBit j <;> cases b.testBit j <;> cases bor a.testBit b.testBit j <;> rfl
    exact ⟨e, fun hj => bit (j + 1) hj e⟩

end Go.Proofs.Ytokgabijjgndgaa
