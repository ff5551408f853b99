/-
  Package vec over the landed code: Add, Sub.
-/
import Derived.Test.YtndmgpgdkekbhaaVp2
import Derived.Laws.Externs
import Derived.Shelf.Spec.BitsCarry
namespace Go.Proofs.Ytndmgpgdkekbhaa
open Go.RowKit

/-- The carry into word k. -/
def cw (x y : List Nat) : Nat → Nat
  | 0 => 0
  | k + 1 => (wd x k + wd y k + cw x y k) / 18446744073709551616
def addW (x y : List Nat) (k : Nat) : Nat := (wd x k + wd y k + cw x y k) % 18446744073709551616
theorem cw_le {x y : List Nat} (hx : Wd x) (hy : Wd y) : ∀ k, cw x y k ≤ 1
  | 0 => Nat.zero_le _
  | k + 1 => by
    have h1 := wd_lt hx k
    have h2 := wd_lt hy k
    have h3 := cw_le hx hy k
    rw [cw]
    omega
theorem val_drop (x : List Nat) (k : Nat) : val (x.drop k) = wd x k + 18446744073709551616 * val (x.drop (k + 1)) := by
  by_cases hk : k < x.length
  · rw [List.drop_eq_getElem_cons hk, val, wd_in hk]
  · rw [List.drop_eq_nil_of_le (by omega), List.drop_eq_nil_of_le (by omega), ← wd_out (by omega)]
    rfl
/-- What is left of the sum behind k words. -/
theorem sum_rest (x y : List Nat) : ∀ k, (val x + val y) / 2 ^ (64 * k) = val (x.drop k) + val (y.drop k) + cw x y k
  | 0 => by simp [cw]
  | k + 1 => by
    rw [Nat.mul_succ, Nat.pow_add, ← Nat.div_div_eq_div_mul, sum_rest x y k, val_drop x k, val_drop y k, cw]
    omega
theorem addW_bit (x y : List Nat) (hx : Wd x) (hy : Wd y) (j : Nat) : (addW x y (j / 64)).testBit (j % 64) = sumB x y j := by
  have h : (val x + val y).testBit j = sumB x y j := by
    rw [add_bits]
    unfold sumB
    rw [val_bit x hx, val_bit y hy, funext (val_bit x hx), funext (val_bit y hy)]
  rw [← h]
  have e : addW x y (j / 64) = (val x + val y) / 2 ^ (64 * (j / 64)) % 2 ^ 64 := by
    rw [sum_rest, val_drop x, val_drop y]
    unfold addW
    omega
  rw [e, Nat.testBit_mod_two_pow, Nat.testBit_div_two_pow, decide_eq_true (Nat.mod_lt _ (by decide)), Bool.true_and]
  congr 1
  omega

/-- The borrow from word k. -/
def bw (x y : List Nat) : Nat → Nat
  | 0 => 0
  | k + 1 => if wd x k < wd y k + bw x y k then 1 else 0
def subW (x y : List Nat) (k : Nat) : Nat := (wd x k + 18446744073709551616 - wd y k - bw x y k) % 18446744073709551616
theorem bw_le (x y : List Nat) : ∀ k, bw x y k ≤ 1
  | 0 => Nat.zero_le _
  | k + 1 => by rw [bw]; split <;> omega
theorem wd_map (F : Nat → Nat) (W k : Nat) (h : k < W) : wd ((List.range W).map F) k = F k := by
  unfold wd
  rw [List.getElem?_map, List.getElem?_range h]
  rfl
theorem sub_carry {x y : List Nat} (hx : Wd x) (hy : Wd y) (W : Nat) : ∀ k, k ≤ W → cw ((List.range W).map (subW x y)) y k = bw x y k
  | 0, _ => rfl
  | k + 1, h => by
    have h1 := wd_lt hx k
    have h2 := wd_lt hy k
    have h3 := bw_le x y k
    rw [cw, bw, sub_carry hx hy W k (by omega), wd_map _ _ _ (by omega)]
    unfold subW
    split <;> omega
theorem subW_wd (x y : List Nat) (W : Nat) : Wd ((List.range W).map (subW x y)) := fun u hu => by
  obtain ⟨k, _, rfl⟩ := List.mem_map.1 hu
  exact Nat.mod_lt _ (by decide)
theorem subW_bit {x y : List Nat} (hx : Wd x) (hy : Wd y) (W j : Nat) (hj : j < 64 * W) : (subW x y (j / 64)).testBit (j % 64) = difB x y j := by
  have hz := subW_wd x y W
  have h : ∀ j, j < 64 * W → (val ((List.range W).map (subW x y)) + val y).testBit j = (val x).testBit j := by
    intro j hj
    have h1 := wd_lt hx (j / 64)
    have h2 := wd_lt hy (j / 64)
    have h3 := bw_le x y (j / 64)
    have h4 := addW_bit _ y hz hy j
    have h5 : (val ((List.range W).map (subW x y)) + val y).testBit j = sumB ((List.range W).map (subW x y)) y j := by
      rw [add_bits]
      unfold sumB
      rw [val_bit _ hz, val_bit y hy, funext (val_bit _ hz), funext (val_bit y hy)]
    rw [h5, ← h4, val_bit x hx, bt_wd]
    congr 1
    unfold addW
    rw [sub_carry hx hy W _ (by omega), wd_map _ _ _ (by omega)]
    unfold subW
    omega
  have h6 := (sub_bits h j (by omega)).2 hj
  rw [val_bit _ hz, bt_wd, wd_map _ _ _ (by omega)] at h6
  rw [h6]
  unfold difB
  rw [val_bit x hx, val_bit y hy, funext (val_bit x hx), funext (val_bit y hy)]

theorem add64 (x y c : Nat) (hx : x < 18446744073709551616) (hy : y < 18446744073709551616) (hc : c ≤ 1) (w : World) :
    (callFunc 40 #[.int .u64 x, .int .u64 y, .int .u64 c]).run Try.prog w =
      .ok (.value (.tuple #[.int .u64 (((x + y + c) % 18446744073709551616 : Nat) : Int), .int .u64 (((x + y + c) / 18446744073709551616 : Nat) : Int)])) w := by
  rw [run_callFunc_extern Try.func40 (by kernel_rfl) (by kernel_rfl) (by kernel_rfl) (e := add64Entry) (by kernel_rfl), run_add64 x y c (by omega) (by omega) (by omega) (by omega)]
  simp only [Result.andThen]
  congr 5 <;> omega
theorem sub64 (x y c : Nat) (hc : c ≤ 1) (w : World) :
    (callFunc 35 #[.int .u64 x, .int .u64 y, .int .u64 c]).run Try.prog w =
      .ok (.value (.tuple #[.int .u64 (((x + 18446744073709551616 - y - c) % 18446744073709551616 : Nat) : Int), .int .u64 ((if x < y + c then 1 else 0 : Nat) : Int)])) w := by
  rw [run_callFunc_extern Try.func35 (by kernel_rfl) (by kernel_rfl) (by kernel_rfl) (e := sub64Entry) (by kernel_rfl), run_sub64 x y c hc]
  rfl

/-- The head of a round of a loop that carries. -/
def CWRel (W : Nat) (F C : Nat → Nat) (w : World) (c i : Value) (wr : World) : Prop :=
  ∃ k : Nat, k ≤ W ∧ i = .int .i64 (k : Int) ∧ c = .int .u64 (C k : Nat) ∧ wr.rowIs w.heap.size 25 W (fun j => .int .u64 ((if j < k then F j else 0 : Nat) : Int)) ∧ Below w.heap.size w wr
theorem cwrel_start {W : Nat} {F C : Nat → Nat} {w wr : World} (h0 : C 0 = 0) (hr : wr.rowIs w.heap.size 25 W (fun _ => .int .u64 0)) (hb : Below w.heap.size w wr) : CWRel W F C w (.int .u64 0) (.int .i64 0) wr :=
  ⟨0, Nat.zero_le _, rfl, by rw [h0]; rfl, hr.congr fun i _ => by rw [if_neg (Nat.not_lt_zero _)]; rfl, hb⟩
theorem cwrel_next {W : Nat} {F C : Nat → Nat} {w wr : World} {k s t : Nat} (hk : k < W) (hr : wr.rowIs w.heap.size 25 W (fun j => .int .u64 ((if j < k then F j else 0 : Nat) : Int))) (hb : Below w.heap.size w wr) (hs : F k = s) (ht : C (k + 1) = t) :
    CWRel W F C w (.int .u64 (t : Nat)) (.int .i64 (k + 1 : Nat)) (wr.setCell ⟨w.heap.size, k, none⟩ (.int .u64 (s : Nat))) := by
  obtain ⟨k', h1, h2, h3, h4⟩ := wrel_next (F := F) hk hr hb rfl
  have e : k + 1 = k' := by
    injection h2 with _ h2
    exact Int.ofNat_inj.1 h2
  subst e
  subst hs
  subst ht
  exact ⟨k + 1, h1, rfl, rfl, h3, h4⟩

set_option maxRecDepth 100000 in
set_option maxHeartbeats 1600000 in
theorem padd : Op2OK 20 sumB := by
  intro A B n m c d x y w hn hm hb hb' hc hcm hd hdm hr hs hx hy
  have HN := Lib.hid hn
  have HM := Lib.hid hm
  obtain ⟨W, hW⟩ : ∃ W, max n m = W := ⟨_, rfl⟩
  have hWl : W ≤ 16384 := by omega
  have HZ := Lib.hid (pzeros A B n m c d W w hb hb' hW)
  rw [hW]
  clear hn hm hW hc hcm hd hdm
  have HD := Lib.hid (fun (k : Nat) (wr : World) (hk : ¬ k < W) => wrel_done (W := W) (F := addW x y) (g := sumB x y) (w := w) (wr := wr) hk hWl (fun k _ => Nat.mod_lt _ (by decide)) (fun j _ => addW_bit x y hx hy j))
  go_enter Try.func20, Try.ntmps20
  go_wp2_with fail
  refine HZ.out.mono ?_
  rintro e w1 ⟨rfl, hT, hB⟩
  clear HZ
  go_wp2_with fail
  go_loopw [6, 13] (fun c i wr => CWRel W (addW x y) (cw x y) w c i wr) (fun _ i _ => W - (intOf i).toNat)
  case atStart => exact cwrel_start rfl hT hB
  case round =>
    clear hT hB
    obtain ⟨k, hk, rfl, rfl, hrow, hbw⟩ := hrel
    by_cases hlt : k < W
    · have t1 := hrow.cell hlt
      have t2 := hrow.frozen k
      have R := cwrel_next (F := addW x y) (C := cw x y) hlt hrow hbw rfl rfl
      have hadd := add64 (wd x k) (wd y k) (cw x y k) (wd_lt hx k) (wd_lt hy k) (cw_le hx hy k)
      rw [show (wd x k + wd y k + cw x y k) % 18446744073709551616 = addW x y k from rfl, show (wd x k + wd y k + cw x y k) / 18446744073709551616 = cw x y (k + 1) from rfl] at hadd
      have rx := hr.below hbw
      have ry := hs.below hbw
      clear hrow hbw HD
      go_wp2_with fail
      refine (pword A n c k x wr HN.out rx).mono ?_
      rintro e w2 ⟨rfl, rfl⟩
      go_wp2_with fail
      refine (pword B m d k y wr HM.out ry).mono ?_
      rintro e w2 ⟨rfl, rfl⟩
      clear rx ry
      generalize wd x k = u at *
      generalize wd y k = v at *
      generalize cw x y (k + 1) = c1 at *
      generalize cw x y k = c0 at *
      generalize addW x y k = s0 at *
      go_wp2_with fail
      go_roundw
      case rel => first | exact R | ((repeat apply Exists.intro); exact ⟨R, rfl⟩)
      case measure => simp [intOf]; omega
    · have HF := Lib.hid (HD.out k wr hlt hrow hbw)
      clear hrow hbw HD
      go_wp2_with fail
      go_ret
      exact HF.out

set_option maxRecDepth 100000 in
set_option maxHeartbeats 1600000 in
theorem psub : Op2OK 12 difB := by
  intro A B n m c d x y w hn hm hb hb' hc hcm hd hdm hr hs hx hy
  have HN := Lib.hid hn
  have HM := Lib.hid hm
  obtain ⟨W, hW⟩ : ∃ W, max n m = W := ⟨_, rfl⟩
  have hWl : W ≤ 16384 := by omega
  have HZ := Lib.hid (pzeros A B n m c d W w hb hb' hW)
  rw [hW]
  clear hn hm hW hc hcm hd hdm
  have HD := Lib.hid (fun (k : Nat) (wr : World) (hk : ¬ k < W) => wrel_done (W := W) (F := subW x y) (g := difB x y) (w := w) (wr := wr) hk hWl (fun k _ => Nat.mod_lt _ (by decide)) (fun j hj => subW_bit hx hy W j hj))
  go_enter Try.func12, Try.ntmps12
  go_wp2_with fail
  refine HZ.out.mono ?_
  rintro e w1 ⟨rfl, hT, hB⟩
  clear HZ
  go_wp2_with fail
  go_loopw [6, 13] (fun c i wr => CWRel W (subW x y) (bw x y) w c i wr) (fun _ i _ => W - (intOf i).toNat)
  case atStart => exact cwrel_start rfl hT hB
  case round =>
    clear hT hB
    obtain ⟨k, hk, rfl, rfl, hrow, hbw⟩ := hrel
    by_cases hlt : k < W
    · have t1 := hrow.cell hlt
      have t2 := hrow.frozen k
      have R := cwrel_next (F := subW x y) (C := bw x y) hlt hrow hbw rfl rfl
      have hsub := sub64 (wd x k) (wd y k) (bw x y k) (bw_le x y k)
      rw [show (wd x k + 18446744073709551616 - wd y k - bw x y k) % 18446744073709551616 = subW x y k from rfl, show (if wd x k < wd y k + bw x y k then 1 else 0) = bw x y (k + 1) from rfl] at hsub
      have rx := hr.below hbw
      have ry := hs.below hbw
      clear hrow hbw HD
      go_wp2_with fail
      refine (pword A n c k x wr HN.out rx).mono ?_
      rintro e w2 ⟨rfl, rfl⟩
      go_wp2_with fail
      refine (pword B m d k y wr HM.out ry).mono ?_
      rintro e w2 ⟨rfl, rfl⟩
      clear rx ry
      generalize wd x k = u at *
      generalize wd y k = v at *
      generalize bw x y (k + 1) = c1 at *
      generalize bw x y k = c0 at *
      generalize subW x y k = s0 at *
      go_wp2_with fail
      go_roundw
      case rel => first | exact R | ((repeat apply Exists.intro); exact ⟨R, rfl⟩)
      case measure => simp [intOf]; omega
    · have HF := Lib.hid (HD.out k wr hlt hrow hbw)
      clear hrow hbw HD
      go_wp2_with fail
      go_ret
      exact HF.out

end Go.Proofs.Ytndmgpgdkekbhaa
