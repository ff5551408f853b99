/-
  Contracts of the reference's Next, Front, Back.
-/
import Derived.Test.YtikmmbplcjhhiaaRw3
import Derived.Test.YtikmmbplcjhhiaaRf8
namespace Go.Proofs.Ytikmmbplcjhhiaa
open Go.RowKit

/-- The head of a round of Next. -/
def RnRel (x : Int) (b row : List Int) (m : Nat) (w : World) (v i : Value) (wr : World) : Prop :=
  ∃ k : Nat, k ≤ m ∧ i = .int .i64 (k : Int) ∧ wr.ownsRow w.heap.size 3 1 v (k + 1) (iv (rowL k (nx x b (nth row)))) ∧ Below w.heap.size w wr
theorem rn_step {x : Int} {b row : List Int} {m k : Nat} {w wr : World} {v : Value} {z : Int} (hk : k < m) (hz : nx x b (nth row) (k + 1) = z) (h : wr.ownsRow w.heap.size 3 1 v (k + 1 + 1) (iv (rowL k (nx x b (nth row))) ++ [.int .i64 z])) (hb : Below w.heap.size w wr) : RnRel x b row m w v (.int .i64 ((k + 1 : Nat) : Int)) wr := by
  subst hz
  refine ⟨k + 1, hk, rfl, ?_, hb⟩
  rw [rowL_succ, iv_append]
  exact h

set_option maxRecDepth 100000 in
set_option maxHeartbeats 3200000 in
theorem rnext_any (A B : Option Addr) (n m c d : Nat) (row : List Int) (x : Int) (b : List Int) (w : World) (hn : row.length = n) (hm : b.length = m) (hb' : m ≤ 1048576) (h1 : Row w A (iv row)) (h2 : Row w B (iv b)) :
    Calls Try.prog 12 #[.slice A n c, .int .i64 x, .slice B m d] w (MadeI (nextL row x b) w) := by
  obtain ⟨i0, hi, hz0, hz1, hz2⟩ := info_parts Try.infoInt
  have HN := Lib.hid hn
  have HM := Lib.hid hm
  clear hn hm
  by_cases hf : n = m + 1
  · subst hf
    obtain ⟨g, o, rfl, hcg⟩ := h1.int (k := 0) (by rw [HN.out]; omega)
    clear hcg
    have t0 := h1.nth (k := 0) (by rw [HN.out]; omega)
    rw [Nat.add_zero] at t0
    have e0 : ((m : Int) + 1 != (m : Int) + 1) = false := by simp
    have O0 : (w.alloc (.cells #[.int .i64 (nth row 0)] 3)).ownsRow w.heap.size 3 1 (.slice (some ⟨w.heap.size, 0, none⟩) 1 1) (0 + 1) (iv (rowL 0 (nx x b (nth row)))) := own_of_heap (us := [.int .i64 (nth row 0)]) (Nat.le_refl _) (by unfold maxLen; omega) rfl (World.alloc_heap_new w _)
    have B0 : Below w.heap.size w (w.alloc (.cells #[.int .i64 (nth row 0)] 3)) := (Below.refl _ _).alloc (Nat.le_refl _) _
    have HO := Lib.hid O0
    have HB := Lib.hid B0
    clear O0 B0
    go_enter Try.func12, Try.ntmps12
    go_wp2_with fail
    go_loopw [7, 8] (fun v i wr => RnRel x b row m w v i wr) (fun _ i _ => m - (intOf i).toNat)
    case atStart => exact ⟨0, Nat.zero_le _, rfl, HO.out, HB.out⟩
    case round =>
      clear HO HB t0
      obtain ⟨k, hk, rfl, hwn, hbr⟩ := hrel
      have hsz := hbr.size
      by_cases hlt : k < m
      · obtain ⟨gb, ob, rfl, hc⟩ := (h2.below hbr).int (k := k) (by rw [HM.out]; exact hlt)
        have HY : Hid (nth b k = b[k]'(by rw [HM.out]; exact hlt)) := nth_of (List.getElem?_eq_getElem _)
        generalize b[k]'(by rw [HM.out]; exact hlt) = y at *
        have t1 := (h1.below hbr).nth (k := k) (by rw [HN.out]; omega)
        have t2 := (h1.below hbr).nth (k := k + 1) (by rw [HN.out]; omega)
        obtain ⟨V, cV, rfl, _, _, rV, _⟩ := own_slice hwn
        obtain ⟨gv, ov, rfl, hcv⟩ := rV.int (k := k) (by rw [rowL_length]; omega)
        clear hcv
        have t3 := rV.nth (k := k) (by rw [rowL_length]; omega)
        rw [nth_rowL (Nat.le_refl _)] at t3
        have HV : Hid (nx x b (nth row) (k + 1) = if x = y then IntKind.i64.wrap (nth row k + 1) else (if nth row (k + 1) < nx x b (nth row) k then nx x b (nth row) k else nth row (k + 1))) := by show nx x b (nth row) (k + 1) = _; rw [← HY.out]; rfl
        have R := Lib.hid (fun (v : Value) (w3 : World) (z : Int) => rn_step (x := x) (b := b) (row := row) (v := v) (wr := w3) (z := z) (w := w) hlt)
        generalize nx x b (nth row) (k + 1) = Z at *
        generalize nx x b (nth row) k = Y at *
        generalize rowL k (nx x b (nth row)) = L at *
        generalize nth row k = G0 at *
        generalize nth row (k + 1) = G1 at *
        clear rV HY
        by_cases heq : x = y
        · subst heq
          rw [if_pos rfl, IntWalk.i64_left] at HV
          go_wp2_with (at_builtin; refine wpList_append_own _ rfl (.tmp 31) (.tmp 37) 24 rfl w.heap.size 3 i0 (.int .i64 0) 1 8 Try.underlying24 hi hz0 hz1 hz2 rfl (by decide) _ _ _ rfl (hwn.alloc _) ⟨wr.heap.size, 0, none⟩ 1 1 [_] rfl rfl (cell_one_new _ _ _) (one_int _ _) (by unfold maxLen; omega) (by omega) (by simp; omega) ?_)
          intro v' w3 hown' hg' _
          have RR := Lib.hid (R.out v' w3 _ HV.out hown' ((hbr.alloc hsz _).grown hg' (by simp; omega) (fun x hx => (hwn.lt x hx).1)))
          clear hown' hg' hwn hbr t1 t2 t3
          go_wp2_with fail
          go_roundw
          case rel => exact RR.out
          case measure => simp [intOf]; omega
        · have hz : (y == x) = false := by simpa using Ne.symm heq
          rw [if_neg heq] at HV
          clear heq
          obtain ⟨k1, hk1⟩ : ∃ k1, k + 1 = k1 := ⟨_, rfl⟩
          have ew : IntKind.i64.wrap ((k : Int) + 1) = (k1 : Int) := by rw [IntWalk.i64_in _ (by omega)]; omega
          have z1 : (k1 : Int) < (m : Int) + 1 := by omega
          have z2 : (k : Int) < (k : Int) + 1 := by omega
          rw [hk1] at t2
          have HK1 := Lib.hid hk1
          clear hk1
          generalize hM : (if G1 < Y then Y else G1) = M at *
          go_wp2_with fail
          go_region_law ((refine step_own rfl (.tmp 39) (.tmp 50) 24 rfl w.heap.size 3 i0 (.int .i64 0) 1 8 Try.underlying24 hi hz0 hz1 hz2 rfl (by decide) _ (k + 1) _ rfl ((hwn.alloc _).drew) ⟨wr.heap.size, 0, none⟩ 1 1 [.int .i64 M] rfl rfl (cell_one_new wr _ _) (one_int _ _) (by unfold maxLen; omega) (by omega) (Nat.le_trans hsz (by simp)) ?_; intro v' w3 hown' hg'))
          all_goals (
            have RR := Lib.hid (R.out v' w3 _ HV.out hown' ((below_drewN (hbr.alloc hsz _) 1).grown hg' (Nat.le_trans hsz (by simp)) (fun x hx => (hwn.lt x hx).1)))
            clear hown' hg' hwn hbr t1 t2 t3
            go_simp
            go_wp2_with fail
            go_roundw
            case rel => (have r := RR.out; rw [HK1.out] at r; exact r)
            case measure => (have := HK1.out; simp [intOf]; omega))
      · obtain rfl : k = m := by omega
        have HF : Hid (MadeI (nextL row x b) w (.returned u7) wr) := by
          rw [nextL_fits (by rw [HN.out, HM.out]), HM.out]
          exact ⟨u7, rfl, by rw [rowL_length]; exact hwn, hbr⟩
        clear hwn hbr h1 h2
        go_wp2_with fail
        go_ret
        exact HF.out
  · have HE : Hid (nextL row x b = []) := nextL_not (by rw [HN.out, HM.out]; exact hf)
    rw [HE.out]
    have e0 : ((n : Int) != (m : Int) + 1) = true := by simp; omega
    have HF : Hid (MadeI [] w (.returned (.slice none 0 0)) w) := ⟨_, rfl, World.ownsRow_nil _ _ _ _, Below.refl _ _⟩
    clear h1 h2 HE
    go_enter Try.func12, Try.ntmps12
    go_wp2_with fail
    go_ret
    exact HF.out

/-- What a call leaves that returns a row to read. -/
def RowOf (l : List Int) (w : World) (e : Ending) (w' : World) : Prop := ∃ A, e = .returned (.slice A l.length l.length) ∧ Row w' A (iv l) ∧ Below w.heap.size w w'

set_option maxHeartbeats 800000 in
theorem rfront_any (A B : Option Addr) (n m c d : Nat) (a b : List Int) (w : World) (hn : a.length = n) (hm : b.length = m) (hb : n ≤ 1048576) (hb' : m ≤ 1048576) (h1 : Row w A (iv a)) (h2 : Row w B (iv b)) :
    Calls Try.prog 14 #[.slice A n c, .slice B m d] w (RowOf (frontL a b) w) := by
  have C := Lib.hid (rahead_any A B n m c d a b w hn hm hb hb' h1 h2)
  have HL : Hid ((frontL a b).length = m + 1) := by show _ = _; rw [frontL_length, hm]
  have HE : Hid (frontL a b = rowL m fun c => ((px a b n c : Nat) : Int)) := by show _ = _; unfold frontL; rw [hm, hn]
  clear h1 h2 hn hm
  go_enter Try.func14, Try.ntmps14
  go_wp2_with fail
  refine C.out.mono ?_
  rintro e w1 ⟨T, blk, rfl, _, ⟨t1, t2⟩, hB⟩
  have c1 := t1.cell (i := n) (by omega)
  have HF : Hid (RowOf (frontL a b) w (.returned (.slice (some ⟨blk n, 0, none⟩) (m + 1) (m + 1))) w1) := by
    refine ⟨_, by rw [HL.out], ?_, hB⟩
    rw [HE.out]
    exact Row.of_own (own_isRow (B := 0) (t2 n (Nat.le_refl _)) (Nat.zero_le _) (by unfold maxLen; omega))
  clear t1 t2 hB C
  go_wp2_with fail
  go_ret
  exact HF.out

set_option maxHeartbeats 800000 in
theorem rback_any (A B : Option Addr) (n m c d : Nat) (a b : List Int) (w : World) (hn : a.length = n) (hm : b.length = m) (hb : n ≤ 1048576) (hb' : m ≤ 1048576) (h1 : Row w A (iv a)) (h2 : Row w B (iv b)) :
    Calls Try.prog 16 #[.slice A n c, .slice B m d] w (RowOf (backL a b) w) := by
  have C := Lib.hid (behind_any A B n m c d a b w hn hm hb hb' h1 h2)
  have HL : Hid ((backL a b).length = m + 1) := by show _ = _; rw [backL_length, hm]
  have HE : Hid (backL a b = rowL m fun c => ((lx a b 0 c : Nat) : Int)) := by show _ = _; unfold backL; rw [hm]
  clear h1 h2 hn hm
  go_enter Try.func16, Try.ntmps16
  go_wp2_with fail
  refine C.out.mono ?_
  rintro e w1 ⟨rfl, hT, hB⟩
  obtain ⟨t1, t2⟩ := hT 0 (Nat.zero_le _)
  simp only [Nat.sub_zero] at t1 t2
  have HF : Hid (RowOf (backL a b) w (.returned (.slice (some ⟨w.heap.size + 1 + n, 0, none⟩) (m + 1) (m + 1))) w1) := by
    refine ⟨_, by rw [HL.out], ?_, hB⟩
    rw [HE.out]
    refine fun _ => ⟨_, 0, rfl, fun i u hu => ?_⟩
    unfold iv at hu
    rw [List.getElem?_map] at hu
    rcases Nat.lt_or_ge i (m + 1) with g | g
    · rw [rowL_get (by omega)] at hu
      simp only [Option.map_some, Option.some.injEq] at hu
      rw [Nat.zero_add, t2 i (by omega), ← hu]
    · rw [List.getElem?_eq_none (by rw [rowL_length]; omega)] at hu
      cases hu
  clear t2 hB C hT
  go_wp2_with fail
  go_ret
  exact HF.out

end Go.Proofs.Ytikmmbplcjhhiaa
