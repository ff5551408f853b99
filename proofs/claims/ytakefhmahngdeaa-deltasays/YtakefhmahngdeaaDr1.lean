/-
  Contracts of the reference's Steps, Row.
-/
import Derived.Test.YtakefhmahngdeaaDl2
import Derived.Test.YtakefhmahngdeaaKnK
import Derived.Deep.QuietTactic
import Derived.BigQuiet
namespace Go.Proofs.Ytakefhmahngdeaa
open Go.RowKit

/-- The head of a round of Steps. -/
def StRel (row : List Int) (N : Nat) (w : World) (v i : Value) (wr : World) : Prop :=
  ∃ k k1 : Nat, k ≤ N ∧ k + 1 = k1 ∧ i = .int .i64 (k1 : Int) ∧ wr.ownsRow w.heap.size 5 1 v k (bv (stpS row k)) ∧ okS row k = true ∧ Below w.heap.size w wr
theorem st_step {row : List Int} {N k : Nat} {w wr : World} {v : Value} {b : UInt8} (hk : k < N) (e : bitS row k = b) (ho : okS row (k + 1) = true) (h : wr.ownsRow w.heap.size 5 1 v (k + 1) (bv (stpS row k) ++ [.int .u8 (b.toNat : Int)])) (hb : Below w.heap.size w wr) {k1 : Nat} (hk1 : k + 1 = k1) : StRel row N w v (.int .i64 ((k1 + 1 : Nat) : Int)) wr := by
  subst e
  refine ⟨k + 1, k1 + 1, hk, by omega, rfl, ?_, ho, hb⟩
  rw [stpS, bv_append]
  exact h
theorem st_done {row : List Int} {N : Nat} {w wr : World} {v : Value} (hn : row.length = N + 1) (h : wr.ownsRow w.heap.size 5 1 v N (bv (stpS row N))) (ho : okS row N = true) (hb : Below w.heap.size w wr) : MadeD row w (.returned (.tuple #[v, .int .i64 0])) wr := by
  obtain ⟨_, h1, h2⟩ := isS_yes hn ho
  refine ⟨_, by rw [h2], ?_, hb⟩
  unfold OwnB
  rw [h1, stpS_length]
  exact h

set_option maxRecDepth 100000 in
set_option maxHeartbeats 1600000 in
theorem steps_any (A : Option Addr) (n c : Nat) (row : List Int) (w : World) (hn : row.length = n) (hb : n ≤ 1048577) (hv : ∀ x ∈ row, I64 x) (hr : Row w A (iv row)) :
    Calls Try.prog 16 #[.slice A n c] w (MadeD row w) := by
  obtain ⟨i0, hi, hz0, hz1, hz2⟩ := info_parts Try.infoU8
  cases n with
  | zero =>
    have hl : row = [] := List.eq_nil_of_length_eq_zero hn
    subst hl
    have HF := Lib.hid (madeD_no (w := w) isS_nil (Below.refl _ _))
    clear hr hv hn
    go_enter Try.func16, Try.ntmps16
    go_wp2_with fail
    go_ret2
    exact HF.out
  | succ N =>
    have HN := Lib.hid hn
    have HV := Lib.hid hv
    clear hv hn
    have hz : ((N : Int) + 1 == 0) = false := by simp; omega
    have HS : Hid (StRel row N w (.slice none 0 0) (.int .i64 1) w) := ⟨0, 1, Nat.zero_le _, rfl, rfl, World.ownsRow_nil _ _ _ _, rfl, Below.refl _ _⟩
    go_enter Try.func16, Try.ntmps16
    go_wp2_with fail
    go_loopw [4, 5] (fun v i wr => StRel row N w v i wr) (fun _ i _ => N + 1 - (intOf i).toNat)
    case atStart => exact HS.out
    case round =>
      clear HS
      obtain ⟨k, k1, hk, hk1, rfl, hwn, hok, hbr⟩ := hrel
      have HK := Lib.hid hk1
      have hsz := hbr.size
      by_cases hlt : k < N
      · obtain ⟨g, o, rfl, h0⟩ := (hr.below hbr).int (k := k) (by rw [HN.out]; omega)
        clear h0
        have t1 := (hr.below hbr).nth (k := k) (by rw [HN.out]; omega)
        have t2 := (hr.below hbr).nth (k := k + 1) (by rw [HN.out]; omega)
        have v1 := nth_i64 HV.out (k := k)
        have v2 := nth_i64 HV.out (k := k + 1)
        unfold I64 at v1 v2
        rw [hk1] at t2
        have ew : IntKind.i64.wrap ((k1 : Int) - 1) = (k : Int) := by rw [IntWalk.i64_in _ (by omega)]; omega
        have z1 : (k1 : Int) < (N : Int) + 1 := by omega
        have z2 : (k : Int) < (N : Int) + 1 := by omega
        by_cases e1 : nth row (k + 1) = nth row k
        · have R := Lib.hid (fun v w3 h b => st_step (v := v) (wr := w3) (b := 0) (w := w) (N := N) hlt (if_pos e1) (okS_same hok e1) h b hk1)
          rw [hk1] at e1 v2
          generalize nth row k1 = x at *
          generalize nth row k = y at *
          subst e1
          clear hr HV hk1 hok
          go_wp2_with fail
          go_quiet (fail)
          have hwn' : (wr.drewN nq).ownsRow w.heap.size 5 1 u4 k (bv (stpS row k)) := hwn
          have hbr' := below_drewN hbr nq
          have hsz' := hbr'.size
          have t1' : (wr.drewN nq).cell? ⟨g, o + k, none⟩ = some (.int .i64 x) := t1
          have t2' : (wr.drewN nq).cell? ⟨g, o + k1, none⟩ = some (.int .i64 x) := t2
          clear hwn hbr hsz t1 t2
          generalize wr.drewN nq = wy at *
          go_wp2_with (at_builtin; refine wpList_append_own _ rfl (.tmp 26) (.tmp 27) 23 rfl w.heap.size 5 i0 (.int .u8 0) 1 1 Try.underlying23 hi hz0 hz1 hz2 rfl (by decide) _ _ _ rfl (hwn'.alloc _) ⟨wy.heap.size, 0, none⟩ 1 1 [_] rfl rfl (cell_one_new _ _ _) (one_int _ _) (by unfold maxLen; omega) (by omega) (by simp; omega) ?_)
          intro v' w3 hown' hg' _
          have RR := Lib.hid (R.out v' w3 hown' ((hbr'.alloc hsz' _).grown hg' (by simp; omega) (fun x hx => (hwn'.lt x hx).1)))
          clear hown' hg' hwn' hbr'
          go_wp2_with fail
          go_roundw
          case rel => exact RR.out
          case measure => (have := HK.out; simp [intOf]; omega)
        · by_cases e2 : nth row (k + 1) = nth row k + 1
          · have R := Lib.hid (fun v w3 h b => st_step (v := v) (wr := w3) (b := 1) (w := w) (N := N) hlt (if_neg e1) (okS_up hok e2) h b hk1)
            rw [hk1] at e1 e2 v2
            generalize nth row k1 = x at *
            generalize nth row k = y at *
            have hq : (x == y) = false := by simpa using e1
            have hg1 : decide (y < x) = true := by simp; omega
            have hg2 : IntKind.i64.wrap (x - 1) = y := by rw [IntWalk.i64_in _ (by omega)]; omega
            clear hr HV hk1 hok e1 e2 v1 v2
            go_wp2_with fail
            go_quiet (fail)
            have hwn' : (wr.drewN nq).ownsRow w.heap.size 5 1 u4 k (bv (stpS row k)) := hwn
            have hbr' := below_drewN hbr nq
            have hsz' := hbr'.size
            have t1' : (wr.drewN nq).cell? ⟨g, o + k, none⟩ = some (.int .i64 y) := t1
            have t2' : (wr.drewN nq).cell? ⟨g, o + k1, none⟩ = some (.int .i64 x) := t2
            clear hwn hbr hsz t1 t2
            generalize wr.drewN nq = wy at *
            go_wp2_with fail
            go_quiet (fail)
            have hwn1 : (wy.drewN nq).ownsRow w.heap.size 5 1 u4 k (bv (stpS row k)) := hwn'
            have hbr1 := below_drewN hbr' nq
            have hsz1 := hbr1.size
            clear hwn' hbr' hsz' t1' t2'
            generalize wy.drewN nq = wz at *
            go_wp2_with (at_builtin; refine wpList_append_own _ rfl (.tmp 53) (.tmp 54) 23 rfl w.heap.size 5 i0 (.int .u8 0) 1 1 Try.underlying23 hi hz0 hz1 hz2 rfl (by decide) _ _ _ rfl (hwn1.alloc _) ⟨wz.heap.size, 0, none⟩ 1 1 [_] rfl rfl (cell_one_new _ _ _) (one_int _ _) (by unfold maxLen; omega) (by omega) (by simp; omega) ?_)
            intro v' w3 hown' hg' _
            have RR := Lib.hid (R.out v' w3 hown' ((hbr1.alloc hsz1 _).grown hg' (by simp; omega) (fun x hx => (hwn1.lt x hx).1)))
            clear hown' hg' hwn1 hbr1
            go_wp2_with fail
            go_roundw
            case rel => exact RR.out
            case measure => (have := HK.out; simp [intOf]; omega)
          · have HF := Lib.hid (fun w3 => madeD_no (w := w) (w' := w3) (isS_bad HN.out hlt (okS_not e1 e2)))
            rw [hk1] at e1 e2 v2
            generalize nth row k1 = x at *
            generalize nth row k = y at *
            have hq : (x == y) = false := by simpa using e1
            by_cases hgt : y < x
            · have hg1 : decide (y < x) = true := by simpa using hgt
              obtain ⟨xm, hg2⟩ : ∃ xm, IntKind.i64.wrap (x - 1) = xm := ⟨_, rfl⟩
              have hg3 : (xm == y) = false := by rw [← hg2, IntWalk.i64_in _ (by omega)]; simp; omega
              clear hr HV hk1 hok e1 e2 v1 v2 hwn hgt
              go_wp2_with fail
              go_quiet (fail)
              have hbr' := below_drewN hbr nq
              have t1' : (wr.drewN nq).cell? ⟨g, o + k, none⟩ = some (.int .i64 y) := t1
              have t2' : (wr.drewN nq).cell? ⟨g, o + k1, none⟩ = some (.int .i64 x) := t2
              clear hbr hsz t1 t2
              generalize wr.drewN nq = wy at *
              go_wp2_with fail
              go_quiet (fail)
              have hbr1 := below_drewN hbr' nq
              clear hbr' t1' t2'
              generalize wy.drewN nq = wz at *
              go_wp2_with fail
              go_ret2
              exact HF.out _ hbr1
            · have hg1 : decide (y < x) = false := by simpa using hgt
              clear hr HV hk1 hok e1 e2 v1 v2 hwn hgt
              go_wp2_with fail
              go_quiet (fail)
              have hbr' := below_drewN hbr nq
              have t1' : (wr.drewN nq).cell? ⟨g, o + k, none⟩ = some (.int .i64 y) := t1
              have t2' : (wr.drewN nq).cell? ⟨g, o + k1, none⟩ = some (.int .i64 x) := t2
              clear hbr hsz t1 t2
              generalize wr.drewN nq = wy at *
              go_wp2_with fail
              go_quiet (fail)
              have hbr1 := below_drewN hbr' nq
              clear hbr' t1' t2'
              generalize wy.drewN nq = wz at *
              go_wp2_with fail
              go_ret2
              exact HF.out _ hbr1
      · obtain rfl : k = N := by omega
        have z1 : ¬ (k1 : Int) < (k : Int) + 1 := by omega
        have HF := Lib.hid (st_done HN.out hwn hok hbr)
        clear hwn hok hbr hr HV
        go_wp2_with fail
        go_ret2
        exact HF.out

/-- The head of a round of Row. -/
def RrRel (first : Int) (d : List UInt8) (n : Nat) (w : World) (v i : Value) (wr : World) : Prop :=
  ∃ k : Nat, k ≤ n ∧ i = .int .i64 (k : Int) ∧ wr.ownsRow w.heap.size 3 1 v (k + 1) (iv (rowL k (rowD first d))) ∧ Below w.heap.size w wr
theorem rr_step {first : Int} {d : List UInt8} {n k : Nat} {w wr : World} {v : Value} {z : Int} (hk : k < n) (hz : rowD first d (k + 1) = z) (h : wr.ownsRow w.heap.size 3 1 v (k + 1 + 1) (iv (rowL k (rowD first d)) ++ [.int .i64 z])) (hb : Below w.heap.size w wr) : RrRel first d n w v (.int .i64 ((k + 1 : Nat) : Int)) wr := by
  subst hz
  refine ⟨k + 1, hk, rfl, ?_, hb⟩
  rw [rowL_succ, iv_append]
  exact h

set_option maxRecDepth 100000 in
set_option maxHeartbeats 1600000 in
theorem rrow_any (first : Int) (A : Option Addr) (n c : Nat) (d : List UInt8) (w : World) (hn : d.length = n) (hb : n ≤ 1048576) (hr : Row w A (bv d)) :
    Calls Try.prog 17 #[.int .i64 first, .slice A n c] w (MadeI (rowDL first d) w) := by
  obtain ⟨i0, hi, hz0, hz1, hz2⟩ := info_parts Try.infoInt
  have HN := Lib.hid hn
  clear hn
  have O0 : (w.alloc (.cells #[.int .i64 first] 3)).ownsRow w.heap.size 3 1 (.slice (some ⟨w.heap.size, 0, none⟩) 1 1) (0 + 1) (iv (rowL 0 (rowD first d))) := own_of_heap (us := [.int .i64 first]) (Nat.le_refl _) (by unfold maxLen; omega) rfl (World.alloc_heap_new w _)
  have HO := Lib.hid O0
  have HB := Lib.hid (below_a1 w (.cells #[.int .i64 first] 3))
  clear O0
  go_enter Try.func17, Try.ntmps17
  go_wp2_with fail
  go_loopw [5, 6] (fun v i wr => RrRel first d n w v i wr) (fun _ i _ => n - (intOf i).toNat)
  case atStart => exact ⟨0, Nat.zero_le _, rfl, HO.out, HB.out⟩
  case round =>
    clear HO HB
    obtain ⟨k, hk, rfl, hwn, hbr⟩ := hrel
    have hsz := hbr.size
    by_cases hlt : k < n
    · obtain ⟨g, o, rfl, hc⟩ := (hr.below hbr).byte (k := k) (by rw [HN.out]; exact hlt)
      have HX : Hid (bget d k = d[k]'(by rw [HN.out]; exact hlt)) := bget_of (List.getElem?_eq_getElem _)
      generalize d[k]'(by rw [HN.out]; exact hlt) = b at *
      obtain ⟨V, cV, rfl, _, _, rV, _⟩ := own_slice hwn
      obtain ⟨gv, ov, rfl, hcv⟩ := rV.int (k := k) (by rw [rowL_length]; omega)
      clear hcv
      have t3 := rV.nth (k := k) (by rw [rowL_length]; omega)
      rw [nth_rowL (Nat.le_refl _)] at t3
      have HV : Hid (rowD first d (k + 1) = if b = 0 then rowD first d k else IntKind.i64.wrap (rowD first d k + 1)) := by show rowD first d (k + 1) = _; rw [← HX.out]; rfl
      have R := Lib.hid (fun (v : Value) (w3 : World) (z : Int) => rr_step (first := first) (d := d) (v := v) (wr := w3) (z := z) (w := w) hlt)
      generalize rowD first d (k + 1) = Z at *
      generalize rowD first d k = Y at *
      generalize rowL k (rowD first d) = L at *
      clear rV HX hr
      by_cases hz : b = 0
      · rw [if_pos hz] at HV
        have e1 : ((b.toNat : Int) != 0) = false := by subst hz; rfl
        clear hz
        go_wp2_with (at_builtin; refine wpList_append_own _ rfl (.tmp 27) (.tmp 29) 27 rfl w.heap.size 3 i0 (.int .i64 0) 1 8 Try.underlying27 hi hz0 hz1 hz2 rfl (by decide) _ _ _ rfl (hwn.alloc _) ⟨wr.heap.size, 0, none⟩ 1 1 [_] rfl rfl (cell_one_new _ _ _) (one_int _ _) (by unfold maxLen; omega) (by omega) (by simp; omega) ?_)
        intro v' w3 hown' hg' _
        have RR := Lib.hid (R.out v' w3 _ HV.out hown' ((hbr.alloc hsz _).grown hg' (by simp; omega) (fun x hx => (hwn.lt x hx).1)))
        clear hown' hg' hwn hbr t3 hc
        go_wp2_with fail
        go_roundw
        case rel => exact RR.out
        case measure => simp [intOf]; omega
      · rw [if_neg hz, IntWalk.i64_left] at HV
        have e1 := byte_ne hz
        clear hz
        go_wp2_with (at_builtin; refine wpList_append_own _ rfl (.tmp 27) (.tmp 29) 27 rfl w.heap.size 3 i0 (.int .i64 0) 1 8 Try.underlying27 hi hz0 hz1 hz2 rfl (by decide) _ _ _ rfl (hwn.alloc _) ⟨wr.heap.size, 0, none⟩ 1 1 [_] rfl rfl (cell_one_new _ _ _) (one_int _ _) (by unfold maxLen; omega) (by omega) (by simp; omega) ?_)
        intro v' w3 hown' hg' _
        have RR := Lib.hid (R.out v' w3 _ HV.out hown' ((hbr.alloc hsz _).grown hg' (by simp; omega) (fun x hx => (hwn.lt x hx).1)))
        clear hown' hg' hwn hbr t3 hc
        go_wp2_with fail
        go_roundw
        case rel => exact RR.out
        case measure => simp [intOf]; omega
    · obtain rfl : k = n := by omega
      have HF : Hid (MadeI (rowDL first d) w (.returned u5) wr) := by
        refine ⟨u5, rfl, ?_, hbr⟩
        rw [rowDL_length]
        unfold rowDL
        rw [HN.out]
        exact hwn
      clear hwn hbr hr
      go_wp2_with fail
      go_ret
      exact HF.out

end Go.Proofs.Ytakefhmahngdeaa
