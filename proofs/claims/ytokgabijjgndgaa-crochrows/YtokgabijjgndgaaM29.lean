/-
  Words and contracts that the proof leans on.
-/
import Derived.Test.YtokgabijjgndgaaM24
import Derived.Test.YtokgabijjgndgaaM27
import Derived.Test.YtokgabijjgndgaaM28
import Derived.Test.YtokgabijjgndgaaM17
import Derived.BigRegion
import Derived.Test.YtokgabijjgndgaaM3
import Derived.Test.YtokgabijjgndgaaM11
import Derived.Test.YtokgabijjgndgaaM8
import Derived.Test.YtokgabijjgndgaaM13
namespace Go.Proofs.Ytokgabijjgndgaa
open Go.RowKit

/-- v is a row of W words of the call's own with the bits b. -/
def OwW (B W : Nat) (b : Nat → Bool) (w : World) (v : Value) : Prop := ∃ x, x.length = W ∧ Wd x ∧ (∀ j, bt x j = b j) ∧ w.ownsRow B 24 1 v W (uv x)
theorem OwW.read {B W : Nat} {b : Nat → Bool} {w : World} {v : Value} (h : OwW B W b w v) : RdW 0 W b w v := by
  obtain ⟨x, h1, h2, h3, h4⟩ := h
  obtain ⟨A, c, rfl, g1, g2, g3, _⟩ := own_slice h4
  exact ⟨A, c, x, rfl, g1, g2, h1, h2, h3, g3, fun _ _ => Nat.zero_le _⟩
theorem OwW.below {B W : Nat} {b : Nat → Bool} {w w' : World} {v : Value} (h : OwW B W b w v) (hb : Below w.heap.size w w') : OwW B W b w' v := by
  obtain ⟨x, h1, h2, h3, h4⟩ := h
  exact ⟨x, h1, h2, h3, own_below h4 hb (Nat.le_refl _)⟩
/-- The head of a round: k rows are told. -/
def RrsRel (a b : List Int) (W B : Nat) (w1 : World) (v i : Value) (wr : World) : Prop :=
  ∃ (k : Nat) (vs : List Value), k ≤ a.length + 1 ∧ i = .int .i64 (k : Int) ∧ wr.ownsRow B 22 1 v k vs ∧ (∀ i u, vs[i]? = some u → OwW B W (rowsF b.length (alikeAt a b) i) wr u) ∧ Below B w1 wr
theorem rrs_next {a b : List Int} {W B k : Nat} {w1 wr wx w3 : World} {vs : List Value} {v v' u : Value} (hk : k < a.length + 1) (hvs : vs.length = k) (own : wr.ownsRow B 22 1 v k vs) (hr : ∀ i u, vs[i]? = some u → OwW B W (rowsF b.length (alikeAt a b) i) wr u) (hB : Below B w1 wr) (hBs : B ≤ wr.heap.size) (hb : Below wr.heap.size wr wx) (hu : OwW B W (rowsF b.length (alikeAt a b) k) wx u) (own3 : w3.ownsRow B 22 1 v' (k + 1) (vs ++ [u])) (hg : (wx.alloc (.cells #[u] 22)).grownBy w3 v.ownBlock) : RrsRel a b W B w1 v' (.int .i64 (k + 1 : Nat)) w3 := by
  have ownx := own_below own hb (Nat.le_refl _)
  have ba : Below wx.heap.size wx (wx.alloc (.cells #[u] 22)) := (Below.refl _ _).alloc (Nat.le_refl _) _
  have owna := own_below ownx ba (Nat.le_refl _)
  have keep : ∀ i u, OwW B W (rowsF b.length (alikeAt a b) i) wx u → OwW B W (rowsF b.length (alikeAt a b) i) w3 u := fun i u ⟨x, h1, h2, h3, h4⟩ =>
    ⟨x, h1, h2, h3, (own_below h4 ba (Nat.le_refl _)).kept hg (own_ne (own_below h4 ba (Nat.le_refl _)) owna (by decide))⟩
  refine ⟨k + 1, vs ++ [u], hk, rfl, own3, fun i z hz => ?_, ((hB.trans (hb.mono hBs)).alloc (by have := hb.size; omega) _).grown hg (by have := hb.size; simp; omega) (fun x hx => (own.lt x hx).1)⟩
  rcases Nat.lt_or_ge i vs.length with hi | hi
  · rw [List.getElem?_append_left hi] at hz
    exact keep i z ((hr i z hz).below hb)
  · rw [List.getElem?_append_right hi] at hz
    have e0 : i - vs.length = 0 := by
      have := (List.getElem?_eq_some_iff.1 hz).1
      simpa using this
    rw [e0] at hz
    simp at hz
    subst hz
    rw [show i = k by omega]
    exact keep k _ hu
theorem rows_bits {a b : List Int} {W k : Nat} (hW : b.length ≤ 64 * W) (j : Nat) : (decide (j < 64 * W) && (decide (j < b.length) && vB a b k j)) = rowsF b.length (alikeAt a b) k j := by
  by_cases h : j < b.length
  · rw [decide_eq_true h, decide_eq_true (show j < 64 * W by omega), rows_are (x := a) (y := b) (fun _ _ _ => rfl) k j h]
    rfl
  · rw [decide_eq_false h, Bool.false_and, Bool.and_false, rows_past k j (by omega)]

set_option maxRecDepth 100000 in
set_option maxHeartbeats 3200000 in
theorem rrows_any (A B : Option Addr) (n m c d : Nat) (a b : List Int) (w : World) (hn : a.length = n) (hm : b.length = m) (hb : n ≤ 1048575) (hb' : m ≤ 1048575) (h1 : Row w A (iv a)) (h2 : Row w B (iv b)) :
    Calls Try.prog 18 #[.slice A n c, .slice B m d] w (RwMade (wdsVc3 m) (n + 1) (rowsF m (alikeAt a b)) w) := by
  subst hn
  subst hm
  obtain ⟨i0, hi, hz0, hz1, hz2⟩ := info_parts Try.infoBool
  obtain ⟨j0, ji, jz0, jz1, jz2⟩ := info_parts Try.infoRowW
  have hwm := wid_nat (n := b.length) (by omega)
  have HNW : Hid (b.length ≤ 64 * wdsVc3 b.length) := by have := wds_wid b.length; rw [hwm] at this; exact this
  have hWl := wds_le b.length
  have HT := Lib.hid (rahead_any A B a.length b.length c d a b w rfl rfl (by omega) (by omega) h1 h2)
  have HWD := Lib.hid (fun wr => words_any b.length wr)
  have HL := Lib.hid (fun (G : Nat) (wr : World) g (h : Row wr (some ⟨G, 0, none⟩) (lv ((List.range b.length).map g))) => (laid_any (some ⟨G, 0, none⟩) b.length b.length (wdsVc3 b.length) ((List.range b.length).map g) wr (by simp) (by omega) (by omega) h))
  generalize wdsVc3 b.length = W at *
  clear h1 h2 hwm
  go_enter Try.func18, Try.ntmps18
  go_wp2_with fail
  refine HT.out.mono ?_
  rintro e w1 ⟨T, blk, rfl, hTs, hT, hb1⟩
  clear HT
  go_wp2_with fail
  go_loopw [6, 7] (fun v i wr => RrsRel a b W w1.heap.size w1 v i wr) (fun _ i _ => a.length + 1 - (RowKit.intOf i).toNat)
  case atStart => exact ⟨0, [], Nat.zero_le _, rfl, World.ownsRow_nil _ _ _ _, fun i u h => by simp at h, Below.refl _ _⟩
  case round =>
    obtain ⟨k, vs, hk, rfl, own, hvs, hB⟩ := hrel
    by_cases hlt : k < a.length + 1
    · obtain ⟨wo, rfl⟩ : ∃ wo, wo = wr := ⟨_, rfl⟩
      have hsz := hB.size
      have hvl : vs.length = k := by have := own.1; omega
      have HB := Lib.hid hB
      have HV := Lib.hid hvs
      have HO := Lib.hid own
      clear hB hvs own
      go_wp2_with (at_make; refine wpList_make_row _ rfl _ _ 49 rfl 4 i0 (.bool false) Try.underlying49 hi hz0 hz1 rfl .i64 .i64 b.length rfl rfl (by rw [hz2]; omega) (by omega) ?_)
      have hS := bit_start b.length (fun j => vB a b k j) wo
      have hS0 : Below wo.heap.size wo (wo.alloc (.cells (madeCells #[.bool false] b.length) 4)) := (Below.refl _ _).alloc (Nat.le_refl _) _
      generalize wo.alloc (.cells (madeCells #[.bool false] b.length) 4) = wz at *
      go_wp2_with fail
      go_loopw [9] (fun i wx => BitRel b.length (fun j => vB a b k j) wo i wx) (fun i _ => b.length - (RowKit.intOf i).toNat)
      case atStart => exact ⟨0, Nat.zero_le _, rfl, hS, hS0⟩
      case round =>
        clear hS hS0
        obtain ⟨q, hq, rfl, hS, hSb⟩ := hrel
        by_cases hlq : q < b.length
        · have hTx : Tab (fun r c => (px a b r c : Nat)) a.length b.length T blk wr := (hT.below HB.out).below (hSb)
          have t1 := hTx.1.cell (i := k) (by omega)
          have t2 := World.rowIs.cell (hTx.2 k (by omega)) (i := q) (by omega)
          have t3 := World.rowIs.cell (hTx.2 k (by omega)) (i := q + 1) (by omega)
          have t4 := hS.cell hlq
          have t5 := hS.frozen q
          have HX : Hid ((((px a b k (q + 1) : Nat) : Int) == ((px a b k q : Nat) : Int)) = vB a b k q) := by
            show _ = _
            unfold vB
            by_cases h : px a b k (q + 1) = px a b k q
            · rw [decide_eq_true h, h]; simp
            · rw [decide_eq_false h]; simp; omega
          have R := Lib.hid (bit_setVc3 hS)
          have RB : Hid (Below wo.heap.size wo (wr.setCell ⟨wo.heap.size, q, none⟩ (.bool (vB a b k q)))) := hSb.setCell (Nat.le_refl _) _
          have zq := IntWalk.i64_in ((q : Int) + 1) (by omega)
          have z1 : (k : Int) < (a.length : Int) + 1 := by omega
          have z2 : (q : Int) + 1 < (b.length : Int) + 1 := by omega
          have z3 : 0 ≤ (q : Int) + 1 := by omega
          have z4 : ((q : Int) + 1).toNat = q + 1 := by omega
          have z5 : (q : Int) < (b.length : Int) + 1 := by omega
          have HR : Hid (∀ x, x = vB a b k q → BitRel b.length (fun j => vB a b k j) wo (.int .i64 ((q + 1 : Nat) : Int)) (wr.setCell ⟨wo.heap.size, q, none⟩ (.bool x)).drew) := fun x hx => by
            subst hx
            exact ⟨q + 1, hlq, rfl, R.out, RB.out.drew⟩
          clear hTx hS hSb R RB HB HV HO hT
          go_wp2_with fail
          go_region
          go_wp2_with fail
          go_roundw
          case rel => exact HR.out _ HX.out
          case measure => simp [RowKit.intOf]; omega
        · obtain rfl : q = b.length := by omega
          have hL := Lib.hid (HL.out wo.heap.size wr _ (bit_row hS))
          clear hS
          go_wp2_with fail
          refine (HWD.out wr).mono ?_
          rintro e w2 ⟨rfl, rfl⟩
          go_wp2_with fail
          refine hL.out.mono ?_
          rintro e w3 ⟨u, x, rfl, hx, wr', bx, ownu, hb3⟩
          have hb3' := below_go hSb hb3
          rw [hx] at ownu
          have hU : OwW w1.heap.size W (rowsF b.length (alikeAt a b) k) w3 u := ⟨x, hx, wr', fun j => by
            rw [bx]
            show (decide (j < 64 * W) && ((List.range b.length).map (fun j => vB a b k j))[j]?.getD false) = _
            rw [bits_get]
            exact rows_bits HNW.out j, own_lower ownu (by have := hSb.size; omega)⟩
          obtain ⟨U, cU, rfl, _, _, _, _⟩ := own_slice ownu
          have own3 := own_below HO.out hb3' (Nat.le_refl _)
          have h3s := hb3'.size
          have HN := Lib.hid (fun w4 v' => rrs_next (w3 := w4) (v' := v') hlt hvl HO.out HV.out HB.out hsz hb3' hU)
          clear hb3 hb3' hU hL bx wr' hx ownu HO HV HB hSb
          go_wp2_with (at_builtin; refine wpList_append_own _ rfl (.tmp 47) (.tmp 53) 25 rfl w1.heap.size 22 j0 (.slice none 0 0) 1 24 Try.underlying25 ji jz0 jz1 jz2 rfl (by decide) _ _ _ rfl (own3.alloc _) ⟨w3.heap.size, 0, none⟩ 1 1 [_] rfl rfl (cell_one_new _ _ _) (one_slice _ _ _) (by unfold maxLen; omega) (by omega) (by simp; omega) ?_)
          intro v' w4 hown' hg' _
          have R := Lib.hid (HN.out w4 v' hown' hg')
          clear hown' hg' own3 HN
          go_wp2_with fail
          go_roundw
          case rel => first | exact R.out | ((repeat apply Exists.intro); exact ⟨R.out, rfl⟩)
          case measure => simp [RowKit.intOf]; omega
    · obtain rfl : k = a.length + 1 := by omega
      obtain ⟨V, cV, rfl, g1, g2, g3, _⟩ := own_slice own
      have HF : Hid (RwMade W (a.length + 1) (rowsF b.length (alikeAt a b)) w (.returned (.slice V (a.length + 1) cV)) wr) := ⟨V, cV, rfl, g1, g2, ⟨vs, by have := own.1; omega, g3, fun i v h => (hvs i v h).read⟩, below_go hb1 hB⟩
      clear own hvs hB g3
      go_wp2_with fail
      go_ret
      exact HF.out

end Go.Proofs.Ytokgabijjgndgaa

namespace Go.Proofs.Ytokgabijjgndgaa
open Go.RowKit

theorem words_is {W : Nat} {b : Nat → Bool} {x : List Nat} (y : List Nat) (hx : x.length = W) (wx : Wd x) (bx : ∀ j, bt x j = b j) (hy : y.length = W) (wy : Wd y) (h : ∀ j, j < 64 * W → b j = bt y j) : x = y :=
  words_eq (by omega) wx wy fun j => by
    by_cases hj : j < 64 * W
    · rw [bx j, h j hj]
    · rw [bt_out (by omega), bt_out (by omega)]
theorem below_same {w w' : World} (h : w = w') : Below w.heap.size w w' := h ▸ Below.refl _ _
theorem wd_all {x : List Nat} (h : (x.all fun u => decide (u < 18446744073709551616)) = true) : Wd x := fun u hu => by
  rw [List.all_eq_true] at h
  simpa using h u hu
theorem few_wf (N : Int) (h0 : 0 < N) (h1 : N ≤ 1000) (b : List Int) : ∀ x ∈ few N b, (Lit.int .i64 x).wf = true := by
  intro x hx
  obtain ⟨y, _, rfl⟩ := List.mem_map.1 hx
  have h2 := Int.emod_nonneg y (show N ≠ 0 by omega)
  have h3 := Int.emod_lt_of_pos y h0
  exact WalkArith.wf_i64 (by omega)
end Go.Proofs.Ytokgabijjgndgaa
