/-
  Words and contracts that the proof leans on.
-/
import Derived.Test.YtmhnciljbdflcaaM12
import Derived.Test.YtmhnciljbdflcaaM17
import Derived.Test.YtmhnciljbdflcaaM8
import Derived.Test.YtmhnciljbdflcaaM26
namespace Go.Proofs.Ytmhnciljbdflcaa
open Go.RowKit

/-! ### Find -/
def RfRel (t : List Int) (j : Int) (w : World) (n i : Value) (wr : World) : Prop := ∃ k : Nat, k ≤ t.length ∧ i = .int .i64 (k : Int) ∧ n = .int .i64 (cntL (t.take k) j : Nat) ∧ wr = w
theorem rf_step {t : List Int} {j x : Int} {k m : Nat} {w : World} (hk : k < t.length) (hx : t[k]? = some x) (hm : m = cntL (t.take k) j + if x < j then 1 else 0) : RfRel t j w (.int .i64 (m : Int)) (.int .i64 ((k + 1 : Nat) : Int)) w := by
  refine ⟨k + 1, hk, rfl, ?_, rfl⟩
  rw [take_snoc hx, cnt_app, hm, cnt_cons, cnt_nil]
  rfl
/-! ### Put -/
/-! ### Row -/
theorem row_length (t js : List Int) : (rowTh t js).length ≤ t.length + js.length := by
  induction js with
  | nil => exact Nat.le_refl _
  | cons j js ih =>
    have := (put_length (rowTh t js) j).2
    show (putT (rowTh t js) j).length ≤ _
    rw [List.length_cons]
    omega
def RrRel (t js : List Int) (w : World) (v i : Value) (wr : World) : Prop :=
  (∃ r k : Nat, r + k + 1 = js.length ∧ i = .int .i64 (r : Int) ∧ wr.ownsRow w.heap.size 3 1 v (rowTh t (js.drop (r + 1))).length (iv (rowTh t (js.drop (r + 1)))) ∧ Below w.heap.size w wr) ∨
  (i = .int .i64 (-1) ∧ wr.ownsRow w.heap.size 3 1 v (rowTh t js).length (iv (rowTh t js)) ∧ Below w.heap.size w wr)
theorem rr_start {t js : List Int} {w wr : World} {v : Value} {x : Int} (hx : x = (js.length : Int) - 1) (h : wr.ownsRow w.heap.size 3 1 v t.length (iv t)) (hb : Below w.heap.size w wr) : RrRel t js w v (.int .i64 x) wr := by
  subst hx
  cases e : js.length with
  | zero =>
    have := List.eq_nil_of_length_eq_zero e
    subst this
    exact .inr ⟨by simp, h, hb⟩
  | succ n => exact .inl ⟨n, 0, by omega, by congr 1; omega, by rw [List.drop_of_length_le (by omega)]; exact h, hb⟩
theorem rr_next {t js : List Int} {w wr : World} {v : Value} {r k : Nat} {x y : Int} (hr : r + k + 1 = js.length) (hx : js[r]? = some x) (hy : y = (r : Int) - 1) (h : wr.ownsRow w.heap.size 3 1 v (putT (rowTh t (js.drop (r + 1))) x).length (iv (putT (rowTh t (js.drop (r + 1))) x))) (hb : Below w.heap.size w wr) : RrRel t js w v (.int .i64 y) wr := by
  subst hy
  have e : rowTh t (js.drop r) = putT (rowTh t (js.drop (r + 1))) x := by
    obtain ⟨g, e⟩ := List.getElem?_eq_some_iff.1 hx
    rw [List.drop_eq_getElem_cons g, e]
    rfl
  rw [← e] at h
  cases r with
  | zero => exact .inr ⟨by simp, h, hb⟩
  | succ r => exact .inl ⟨r, k + 1, by omega, by congr 1; omega, h, hb⟩
/-! ### Rises -/
theorem asc_pair {t : List Int} (h : Asc t) {k : Nat} {x y : Int} (hx : t[k]? = some x) (hy : t[k + 1]? = some y) : x < y := by
  obtain ⟨h1, rfl⟩ := List.getElem?_eq_some_iff.1 hx
  obtain ⟨h2, rfl⟩ := List.getElem?_eq_some_iff.1 hy
  exact List.pairwise_iff_getElem.1 h k (k + 1) h1 h2 (by omega)
/-! ### Thresholds -/
def RtRel (F : Nat → Nat) (m : Nat) (w : World) (v i : Value) (wr : World) : Prop :=
  ∃ k : Nat, k ≤ m ∧ i = .int .i64 (k : Int) ∧ wr.ownsRow w.heap.size 3 1 v (thrL F k).length (iv (thrL F k)) ∧ Below w.heap.size w wr
theorem rt_no {F : Nat → Nat} {m k : Nat} {w wr : World} {v : Value} (hk : k < m) (hF : ¬ F k < F (k + 1)) (h : wr.ownsRow w.heap.size 3 1 v (thrL F k).length (iv (thrL F k))) (hb : Below w.heap.size w wr) : RtRel F m w v (.int .i64 ((k + 1 : Nat) : Int)) wr := by
  refine ⟨k + 1, hk, rfl, ?_, hb⟩
  rw [thr_succ, if_neg hF, List.append_nil]
  exact h
theorem rt_yes {F : Nat → Nat} {m k : Nat} {w wr : World} {v : Value} (hk : k < m) (hF : F k < F (k + 1)) (h : wr.ownsRow w.heap.size 3 1 v ((thrL F k).length + 1) (iv (thrL F k) ++ [.int .i64 (k : Int)])) (hb : Below w.heap.size w wr) : RtRel F m w v (.int .i64 ((k + 1 : Nat) : Int)) wr := by
  refine ⟨k + 1, hk, rfl, ?_, hb⟩
  rw [thr_succ, if_pos hF, iv_append, List.length_append]
  exact h
theorem thr_len_le (F : Nat → Nat) (m : Nat) : (thrL F m).length ≤ m := by
  induction m with
  | zero => exact Nat.le_refl _
  | succ m ih =>
    rw [thr_succ, List.length_append]
    split
    · simp; omega
    · simp; omega
set_option maxRecDepth 100000 in
set_option maxHeartbeats 3200000 in
theorem rthr_any (A B : Option Addr) (n m c d : Nat) (a b : List Int) (w : World) (hn : a.length = n) (hm : b.length = m) (hb : n ≤ 1048576) (hb' : m ≤ 1048576) (h1 : Row w A (iv a)) (h2 : Row w B (iv b)) :
    Calls Try.prog 17 #[.slice A n c, .slice B m d] w (MadeI (thrL (px a b n) m) w) := by
  obtain ⟨i0, hi, hz0, hz1, hz2⟩ := info_parts Try.infoInt
  have C := Lib.hid (rfront_any A B n m c d a b w hn hm hb hb' h1 h2)
  have HL : Hid ((frontL a b).length = m + 1) := by show _ = _; rw [frontL_length, hm]
  have HE : Hid (frontL a b = rowL m fun c => ((px a b n c : Nat) : Int)) := by show _ = _; unfold frontL; rw [hm, hn]
  clear h1 h2 hn hm
  go_enter Try.func17, Try.ntmps17
  go_wp2_with fail
  refine C.out.mono ?_
  rintro e w1 ⟨T, rfl, hT0, hB1⟩
  rw [HE.out] at hT0
  rw [HL.out]
  have hs1 := hB1.size
  have HB1 := Lib.hid hB1
  clear C hB1
  go_wp2_with fail
  go_loopw [6, 7] (fun v i wr => RtRel (px a b n) m w1 v i wr) (fun _ i _ => m - (intOf i).toNat)
  case atStart => exact ⟨0, Nat.zero_le _, rfl, World.ownsRow_nil _ _ _ _, Below.refl _ _⟩
  case round =>
    obtain ⟨k, hk, rfl, hwn, hbr⟩ := hrel
    have hsz := hbr.size
    by_cases hlt : k < m
    · have hT := hT0.below hbr
      obtain ⟨g, o, rfl, hcx⟩ := hT.int (k := 0) (by rw [rowL_length]; omega)
      clear hcx
      have t1 := hT.nth (k := k) (by rw [rowL_length]; omega)
      have t2 := hT.nth (k := k + 1) (by rw [rowL_length]; omega)
      rw [nth_rowL (by omega)] at t1 t2
      have hln := thr_len_le (px a b n) k
      have hw : IntKind.i64.wrap ((k : Int) + 1) = ((k + 1 : Nat) : Int) := by rw [IntWalk.i64_in _ (by omega)]; omega
      by_cases hF : px a b n k < px a b n (k + 1)
      · have hd : decide (((px a b n k : Nat) : Int) < ((px a b n (k + 1) : Nat) : Int)) = true := by rw [decide_eq_true_eq]; omega
        have hd2 : decide (px a b n k < px a b n (k + 1)) = true := by rw [decide_eq_true_eq]; exact hF
        have R := Lib.hid (fun v w3 h hb => rt_yes (F := px a b n) (w := w1) (v := v) (wr := w3) hlt hF h hb)
        clear hT hF
        generalize px a b n k = x0 at *
        generalize px a b n (k + 1) = x1 at *
        generalize thrL (px a b n) k = L at *
        go_wp2_with fail
        go_quiet (fail)
        have hwnY : (wr.drewN nq).ownsRow w1.heap.size 3 1 u6 L.length (iv L) := hwn
        have hbY := below_drewN hbr nq
        have hsY := hbY.size
        clear hwn hbr t1 t2 hd hd2 hw
        generalize wr.drewN nq = wy at *
        go_wp2_with (at_builtin; refine wpList_append_own _ rfl (.tmp 27) (.tmp 29) 25 rfl w1.heap.size 3 i0 (.int .i64 0) 1 8 Try.underlying25 hi hz0 hz1 hz2 rfl (by decide) _ _ _ rfl (hwnY.alloc _) ⟨wy.heap.size, 0, none⟩ 1 1 [_] rfl rfl (cell_one_new _ _ _) (one_int _ _) (by unfold maxLen; omega) (by omega) (by simp; omega) ?_)
        intro v' w3 hown' hg' _
        have RR := Lib.hid (R.out v' w3 hown' ((hbY.alloc hsY _).grown hg' (by simp; omega) (fun x hx => (hwnY.lt x hx).1)))
        clear hown' hg' hwnY hbY R
        go_wp2_with fail
        go_roundw
        case rel => exact RR.out
        case measure => simp [intOf]; omega
      · have hd : decide (((px a b n k : Nat) : Int) < ((px a b n (k + 1) : Nat) : Int)) = false := by rw [decide_eq_false_iff_not]; omega
        have hd2 : decide (px a b n k < px a b n (k + 1)) = false := by rw [decide_eq_false_iff_not]; exact hF
        have R := Lib.hid (fun q => rt_no (F := px a b n) (w := w1) (v := u6) (wr := wr.drewN q) hlt hF hwn (below_drewN hbr q))
        clear hT hF
        generalize px a b n k = x0 at *
        generalize px a b n (k + 1) = x1 at *
        clear hwn hbr
        go_wp2_with fail
        go_quiet (fail)
        go_wp2_with fail
        go_roundw
        case rel => exact R.out _
        case measure => simp [intOf]; omega
    · obtain rfl : k = m := by omega
      have HF : Hid (MadeI (thrL (px a b n) k) w (.returned u6) wr) := ⟨u6, rfl, own_lower hwn hs1, below_go HB1.out hbr⟩
      clear hwn hbr
      go_wp2_with fail
      go_ret
      exact HF.out

end Go.Proofs.Ytmhnciljbdflcaa
