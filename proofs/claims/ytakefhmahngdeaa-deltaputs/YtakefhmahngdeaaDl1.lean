/-
  Contracts of package delta's follows, Of, Row.
-/
import Derived.Test.YtakefhmahngdeaaDlP
import Derived.Test.YtakefhmahngdeaaMemB
import Derived.Test.YtakefhmahngdeaaRw3
import Derived.Test.YtakefhmahngdeaaSlc
import Derived.Test.YtakefhmahngdeaaOwnS
namespace Go.Proofs.Ytakefhmahngdeaa
open Go.RowKit

set_option maxHeartbeats 800000 in
theorem follows_any (x y : Int) (w : World) (hx : I64 x) (hy : I64 y) : Calls Try.prog 22 #[.int .i64 x, .int .i64 y] w fun e w' => e = .returned (.bool (decide (x = y + 1))) ∧ w = w' := by
  unfold I64 at hx hy
  by_cases h : y < 9223372036854775807
  · go_enter Try.func22, Try.ntmps22
    go_wp2_with fail
    go_ret
    exact ⟨rfl, rfl⟩
  · rw [decide_eq_false (by omega)]
    go_enter Try.func22, Try.ntmps22
    go_wp2_with fail
    go_ret
    exact ⟨rfl, rfl⟩

theorem nth_drop (l : List Int) (a k : Nat) : nth (l.drop a) k = nth l (a + k) := by unfold nth; rw [List.getElem?_drop]
theorem nth_i64 {l : List Int} (h : ∀ x ∈ l, I64 x) {k : Nat} : I64 (nth l k) := by
  unfold nth
  cases e : l[k]? with
  | none => exact i64_small (by simp)
  | some x => exact h x (List.mem_of_getElem? e)
theorem own_cellB {w : World} {B n g c k : Nat} {l : List UInt8} {b : UInt8} (h : w.ownsRow B 5 1 (.slice (some ⟨g, 0, none⟩) n c) n (bv l)) (hk : l[k]? = some b) : w.cell? ⟨g, k, none⟩ = some (.int .u8 (b.toNat : Int)) := by
  obtain ⟨hl, rfl⟩ := List.getElem?_eq_some_iff.1 hk
  obtain ⟨g', o', e, hc⟩ := (Row.of_own h).byte hl
  cases e
  rwa [Nat.zero_add] at hc

/-- What a call leaves that returns the steps of a row. -/
def MadeD (row : List Int) (w : World) (e : Ending) (w' : World) : Prop := ∃ v, e = .returned (.tuple #[v, .int .i64 (errS row)]) ∧ OwnB w.heap.size w' v (stepsL row) ∧ Below w.heap.size w w'
theorem madeD_no {row : List Int} {w w' : World} (h : isS row = false) (hb : Below w.heap.size w w') : MadeD row w (.returned (.tuple #[.slice none 0 0, .int .i64 1])) w' := by
  obtain ⟨h1, h2⟩ := isS_no h
  refine ⟨_, by rw [h2], ?_, hb⟩
  rw [h1]
  exact World.ownsRow_nil _ _ _ _

/-- The head of a round of Of. -/
def OfRel (row : List Int) (N : Nat) (w : World) (i : Value) (wr : World) : Prop :=
  ∃ k : Nat, k ≤ N ∧ i = .int .i64 (k : Int) ∧ wr.ownsRow w.heap.size 5 1 (.slice (some ⟨w.heap.size, 0, none⟩) N N) N (bv (dS row N k)) ∧ okS row k = true ∧ Below w.heap.size w wr
theorem made_bytes (N : Nat) : (madeCells #[.int .u8 0] N).toList = bv (List.replicate N 0) := by
  rw [toList_madeCells_one]
  unfold bv
  rw [List.map_replicate]
  rfl
theorem of_start {row : List Int} {N : Nat} {w wr : World} (h : wr.ownsRow w.heap.size 5 1 (.slice (some ⟨w.heap.size, 0, none⟩) N N) N (madeCells #[.int .u8 0] N).toList) (hb : Below w.heap.size w wr) : OfRel row N w (.int .i64 0) wr := by
  rw [made_bytes, ← dS_zero row] at h
  exact ⟨0, Nat.zero_le _, rfl, h, rfl, hb⟩
theorem of_same {row : List Int} {N k : Nat} {w wr : World} (hk : k < N) (h : wr.ownsRow w.heap.size 5 1 (.slice (some ⟨w.heap.size, 0, none⟩) N N) N (bv (dS row N k))) (ho : okS row k = true) (hb : Below w.heap.size w wr) (e : nth row (k + 1) = nth row k) : OfRel row N w (.int .i64 ((k + 1 : Nat) : Int)) wr :=
  ⟨k + 1, hk, rfl, by rw [dS_same hk e]; exact h, okS_same ho e, hb⟩
theorem of_up {row : List Int} {N k : Nat} {w wr : World} (hk : k < N) (h : wr.ownsRow w.heap.size 5 1 (.slice (some ⟨w.heap.size, 0, none⟩) N N) N (bv (dS row N k))) (ho : okS row k = true) (hb : Below w.heap.size w wr) (e : nth row (k + 1) ≠ nth row k) (e' : nth row (k + 1) = nth row k + 1) : OfRel row N w (.int .i64 ((k + 1 : Nat) : Int)) (wr.setCell ⟨w.heap.size, k, none⟩ (.int .u8 1)) := by
  refine ⟨k + 1, hk, rfl, ?_, okS_up ho e', hb.setCell (Nat.le_refl _) _⟩
  have := own_setS h k (.int .u8 ((1 : UInt8).toNat : Int))
  rw [bv_set] at this
  rw [dS_up hk e]
  exact this
theorem of_done {row : List Int} {N : Nat} {w wr : World} (hn : row.length = N + 1) (h : wr.ownsRow w.heap.size 5 1 (.slice (some ⟨w.heap.size, 0, none⟩) N N) N (bv (dS row N N))) (ho : okS row N = true) (hb : Below w.heap.size w wr) : MadeD row w (.returned (.tuple #[.slice (some ⟨w.heap.size, 0, none⟩) N N, .int .i64 0])) wr := by
  obtain ⟨_, h1, h2⟩ := isS_yes hn ho
  refine ⟨_, by rw [h2], ?_, hb⟩
  rw [dS_all] at h
  unfold OwnB
  rw [h1, stpS_length]
  exact h

set_option maxRecDepth 100000 in
set_option maxHeartbeats 1600000 in
theorem of_any (A : Option Addr) (n c : Nat) (row : List Int) (w : World) (hn : row.length = n) (hb : n ≤ 1048577) (hc : n ≤ c) (hv : ∀ x ∈ row, I64 x) (hr : Row w A (iv row)) :
    Calls Try.prog 10 #[.slice A n c] w (MadeD row w) := by
  obtain ⟨i0, hi, hz0, hz1, hz2⟩ := info_parts Try.infoU8
  cases n with
  | zero =>
    have hl : row = [] := List.eq_nil_of_length_eq_zero hn
    subst hl
    have HF := Lib.hid (madeD_no (w := w) isS_nil (Below.refl _ _))
    clear hr hv hn
    go_enter Try.func10, Try.ntmps10
    go_wp2_with fail
    go_ret2
    exact HF.out
  | succ N =>
    have HN := Lib.hid hn
    have HV := Lib.hid hv
    clear hv
    obtain ⟨A', c', hs, _, hr'⟩ := slice_from A (N + 1) c 1 row w hr hn hc (by omega)
    replace hs : ∀ w, (Instr.sliceAt 27 (.slice A (N + 1) c) (some (.int .i64 1)) none none).run Try.prog w = .ok (.slice A' N c') w := hs
    have hz : ((N : Int) + 1 == 0) = false := by simp; omega
    clear hn
    go_enter Try.func10, Try.ntmps10
    go_wp2_with (at_make; refine wpList_make_full _ rfl _ _ 23 rfl w.heap.size 5 i0 (.int .u8 0) 1 Try.underlying23 hi hz0 hz1 .i64 .i64 _ _ N rfl rfl rfl rfl (by rw [hz2]; omega) (by unfold maxLen; omega) (Nat.le_refl _) ?_)
    intro w1 hown hg
    have HS := Lib.hid (of_start (row := row) hown ((Below.refl _ _).grown hg (Nat.le_refl _) (fun k hk => by cases hk)))
    clear hown hg
    go_wp2_with fail
    go_loopw [17] (fun i wr => OfRel row N w i wr) (fun i _ => N - (intOf i).toNat)
    case atStart => exact HS.out
    case round =>
      clear HS
      obtain ⟨k, hk, rfl, hwn, hok, hbr⟩ := hrel
      clear hs
      by_cases hlt : k < N
      · obtain ⟨g, o, rfl, h0⟩ := (hr.below hbr).int (k := k) (by rw [HN.out]; omega)
        obtain ⟨g', o', rfl, h0'⟩ := (hr'.below hbr).int (k := k) (by rw [List.length_drop, HN.out]; omega)
        clear h0 h0'
        have t1 := (hr.below hbr).nth (k := k) (by rw [HN.out]; omega)
        have t2 := (hr'.below hbr).nth (k := k) (by rw [List.length_drop, HN.out]; omega)
        rw [nth_drop, Nat.add_comm 1 k] at t2
        have v1 := nth_i64 HV.out (k := k)
        have v2 := nth_i64 HV.out (k := k + 1)
        by_cases e1 : nth row (k + 1) = nth row k
        · have R := Lib.hid (of_same hlt hwn hok hbr e1)
          clear hwn hok hbr hr hr' HV
          generalize nth row (k + 1) = x at *
          generalize nth row k = y at *
          subst e1
          go_wp2_with fail
          go_roundw
          case rel => exact R.out
          case measure => simp [intOf]; omega
        · by_cases e2 : nth row (k + 1) = nth row k + 1
          · have R := Lib.hid (of_up hlt hwn hok hbr e1 e2)
            obtain ⟨_, _, e, hfz, _, hlw⟩ := own_posS hwn (by omega)
            cases e
            have f1 := hfz k
            have f2 := (own_cellB hwn (dS_get hlt))
            clear hwn hok hbr hr hr' HV hfz
            generalize nth row (k + 1) = x at *
            generalize nth row k = y at *
            have hz : (x == y) = false := by simpa using e1
            have HD : Hid (decide (x = y + 1) = true) := decide_eq_true e2
            clear e1 e2
            go_wp2_with fail
            refine (follows_any x y _ v2 v1).mono ?_
            rintro e w' ⟨rfl, rfl⟩
            rw [HD.out]
            go_wp2_with fail
            go_roundw
            case rel => exact R.out
            case measure => simp [intOf]; omega
          · have HF := Lib.hid (madeD_no (isS_bad HN.out hlt (okS_not e1 e2)) hbr)
            clear hwn hok hbr hr hr' HV
            generalize nth row (k + 1) = x at *
            generalize nth row k = y at *
            have hz : (x == y) = false := by simpa using e1
            have HD : Hid (decide (x = y + 1) = false) := decide_eq_false e2
            clear e1 e2
            go_wp2_with fail
            refine (follows_any x y _ v2 v1).mono ?_
            rintro e w' ⟨rfl, rfl⟩
            rw [HD.out]
            go_wp2_with fail
            go_ret2
            exact HF.out
      · obtain rfl : k = N := by omega
        have HF := Lib.hid (of_done HN.out hwn hok hbr)
        clear hwn hok hbr hr hr' HV
        go_wp2_with fail
        go_ret2
        exact HF.out

end Go.Proofs.Ytakefhmahngdeaa
