/-
  Words and contracts that the proof leans on.
-/
import Derived.Test.YtejpbjglfjhjkaaM23
import Derived.Deep.RegionWith
import Derived.BigRegion
namespace Go.Proofs.Ytejpbjglfjhjkaa
open Go.RowKit

/-- What is known of a table that is returned. -/
def TabMade (f : Nat → Nat → Int) (n m : Nat) (w : World) (e : Ending) (w' : World) : Prop :=
  ∃ T blk, e = .returned (.slice (some ⟨T, 0, none⟩) (n + 1) (n + 1)) ∧ w.heap.size ≤ T ∧ Tab f n m T blk w' ∧ Below w.heap.size w w'
theorem TabMade.congr {f f' : Nat → Nat → Int} {n m : Nat} {w w' : World} {e : Ending} (h : TabMade f n m w e w') (ef : ∀ r, r ≤ n → ∀ c, c ≤ m → f r c = f' r c) : TabMade f' n m w e w' := by
  obtain ⟨T, blk, h1, h2, h3, h4⟩ := h
  exact ⟨T, blk, h1, h2, h3.congr ef, h4⟩
end Go.Proofs.Ytejpbjglfjhjkaa

namespace Go.Proofs.Ytejpbjglfjhjkaa
open Go.RowKit

theorem px_turned {a b : List Int} {n m i j r c : Nat} (hn : a.length = n) (hm : b.length = m) (hi : i + r = n) (hj : j + c = m) : lx a.reverse b.reverse r c = px a b i j := by
  unfold lx px
  rw [List.drop_reverse, List.drop_reverse, lcs_rev, hn, hm, show n - r = i by omega, show m - c = j by omega]

/-- k rows are done. -/
def RaRel (a b : List Int) (n m T k : Nat) (w3 wr : World) : Prop :=
  wr.rowIs T 26 (n + 1) (fun r => if r < k then .slice (some ⟨T + 1 + r, 0, none⟩) (m + 1) (m + 1) else .slice none 0 0) ∧ (∀ r, r < k → IsRow wr (T + 1 + r) (m + 1) (fun c => (px a b r c : Nat))) ∧ wr.heap.size = T + 1 + k ∧ Below T w3 wr
/-- k rows are done, and of the next one the numbers up to j. -/
def RaPart (a b : List Int) (n m T k j : Nat) (w3 wr : World) : Prop :=
  wr.rowIs T 26 (n + 1) (fun r => if r < k + 1 then .slice (some ⟨T + 1 + r, 0, none⟩) (m + 1) (m + 1) else .slice none 0 0) ∧ (∀ r, r < k → IsRow wr (T + 1 + r) (m + 1) (fun c => (px a b r c : Nat))) ∧ IsRow wr (T + 1 + k) (m + 1) (fun c => if c < j then (px a b k c : Nat) else 0) ∧ wr.heap.size = T + 1 + (k + 1) ∧ Below T w3 wr
theorem ra_start (a b : List Int) (n m : Nat) (w : World) : RaRel a b n m w.heap.size 0 w (w.alloc (.cells (madeCells #[.slice none 0 0] (n + 1)) 26)) :=
  ⟨(World.rowIs_made w _ _ _).congr fun i _ => by simp, fun r h => by omega, by simp, (Below.refl _ _).alloc (Nat.le_refl _) _⟩
theorem ra_row {a b : List Int} {n m T k : Nat} {w3 wr : World} (h : RaRel a b n m T k w3 wr) : RaPart a b n m T k 0 w3 ((wr.alloc (.cells (madeCells #[.int .i64 0] (m + 1)) 3)).setCell ⟨T, k, none⟩ (.slice (some ⟨T + 1 + k, 0, none⟩) (m + 1) (m + 1))) := by
  obtain ⟨h1, h2, h3, h4⟩ := h
  refine ⟨((h1.alloc _).set k _).congr fun i hi => ?_, fun r hr => World.rowIs.setOther (World.rowIs.alloc (h2 r hr) _) (by show T + 1 + r ≠ T; omega) _, ?_, by simp [h3]; omega, (h4.alloc (by omega) _).setCell (Nat.le_refl _) _⟩
  · by_cases e : i = k
    · subst e
      rw [if_pos rfl, if_pos (by omega)]
    · rw [if_neg e]
      by_cases g : i < k
      · rw [if_pos g, if_pos (by omega)]
      · rw [if_neg g, if_neg (by omega)]
  · have := World.rowIs_made wr (.int .i64 0) (m + 1) 3
    rw [h3] at this
    exact (this.setOther (a := ⟨T, k, none⟩) (by show T + 1 + k ≠ T; omega) _).congr fun i _ => by simp
theorem ra_set {a b : List Int} {n m T k j : Nat} {w3 wr : World} {v : Int} (h : RaPart a b n m T k j w3 wr) (hv : v = (px a b k j : Nat)) : RaPart a b n m T k (j + 1) w3 (wr.setCell ⟨T + 1 + k, j, none⟩ (.int .i64 v)) := by
  obtain ⟨h1, h2, h3, h4, h5⟩ := h
  refine ⟨h1.setOther (by show T ≠ T + 1 + k; omega) _, fun r hr => World.rowIs.setOther (h2 r hr) (by show T + 1 + r ≠ T + 1 + k; omega) _, World.rowIs.congr (World.rowIs.set h3 j _) fun i _ => ?_, by simpa using h4, h5.setCell (by show T ≤ T + 1 + k; omega) _⟩
  dsimp only
  by_cases e : i = j
  · subst e
    rw [if_pos rfl, if_pos (by omega), hv]
  · rw [if_neg e]
    by_cases g : i < j
    · rw [if_pos g, if_pos (by omega)]
    · rw [if_neg g, if_neg (by omega)]
theorem RaPart.drew {a b : List Int} {n m T k j : Nat} {w3 wr : World} (h : RaPart a b n m T k j w3 wr) : RaPart a b n m T k j w3 wr.drew := ⟨h.1, h.2.1, h.2.2.1, h.2.2.2.1, h.2.2.2.2.drew⟩
theorem ra_done {a b : List Int} {n m T k : Nat} {w3 wr : World} (h : RaPart a b n m T k (m + 1) w3 wr) : RaRel a b n m T (k + 1) w3 wr := by
  obtain ⟨h1, h2, h3, h4, h5⟩ := h
  refine ⟨h1, fun r hr => ?_, h4, h5⟩
  by_cases e : r = k
  · subst e
    exact World.rowIs.congr h3 fun c hc => by dsimp only; rw [if_pos hc]
  · exact h2 r (by omega)
theorem ra_all {a b : List Int} {n m T : Nat} {w3 wr : World} (h : RaRel a b n m T (n + 1) w3 wr) : Tab (fun r c => (px a b r c : Nat)) n m T (fun r => T + 1 + r) wr :=
  ⟨h.1.congr fun i hi => by rw [if_pos hi], fun r hr => h.2.1 r (by omega)⟩

set_option maxRecDepth 100000 in
set_option maxHeartbeats 3200000 in
theorem rahead_any (A B : Option Addr) (n m c d : Nat) (a b : List Int) (w : World) (hn : a.length = n) (hm : b.length = m) (hb : n ≤ 1048576) (hb' : m ≤ 1048576) (h1 : Row w A (iv a)) (h2 : Row w B (iv b)) :
    Calls Try.prog 33 #[.slice A n c, .slice B m d] w (TabMade (fun r c => (px a b r c : Nat)) n m w) := by
  obtain ⟨i0, hi, hz0, hz1, hz2⟩ := info_parts Try.infoInt
  obtain ⟨j0, ji, jz0, jz1, jz2⟩ := info_parts Try.infoInts1
  have HN := Lib.hid hn
  have HM := Lib.hid hm
  clear hn hm
  go_enter Try.func33, Try.ntmps33
  go_wp2_with fail
  refine (turned_any A n c a w HN.out hb h1).mono ?_
  rintro e w1 ⟨v, rfl, hv, hB1⟩
  obtain ⟨V1, c1, rfl, _, _, r1, _⟩ := own_slice hv
  rw [List.length_reverse, HN.out]
  clear hv h1
  have h2' := h2.below hB1
  clear h2
  go_wp2_with fail
  refine (turned_any B m d b w1 HM.out hb' h2').mono ?_
  rintro e w2 ⟨v, rfl, hv, hB2⟩
  obtain ⟨V2, c2, rfl, _, _, r2, _⟩ := own_slice hv
  rw [List.length_reverse, HM.out]
  have r1' := r1.below hB2
  have hB := below_go hB1 hB2
  clear hv h2' r1 hB1 hB2
  go_wp2_with fail
  refine (behind_any V1 V2 n m c1 c2 a.reverse b.reverse w2 (by rw [List.length_reverse, HN.out]) (by rw [List.length_reverse, HM.out]) hb hb' r1' r2).mono ?_
  rintro e w3 ⟨rfl, hT0, hB3⟩
  have hBw := below_go hB hB3
  clear r1' r2 hB hB3
  go_wp2_with (at_make; refine wpList_make_row _ rfl _ _ 40 rfl 26 j0 (.slice none 0 0) Try.underlying40 ji jz0 jz1 rfl .i64 .i64 (n + 1) rfl rfl (by rw [jz2]; omega) (by omega) ?_)
  have hT := ra_start a b n m w3
  generalize w3.alloc (.cells (madeCells #[.slice none 0 0] (n + 1)) 26) = wa at *
  obtain ⟨T, hTe⟩ : ∃ T, w3.heap.size = T := ⟨_, rfl⟩
  rw [hTe] at hT ⊢
  generalize w2.heap.size = T0 at *
  go_wp2_with fail
  go_loopw [7] (fun i wr => ∃ k : Nat, k ≤ n + 1 ∧ i = .int .i64 (k : Int) ∧ RaRel a b n m T k w3 wr) (fun i _ => n + 1 - (intOf i).toNat)
  case atStart => exact ⟨0, Nat.zero_le _, rfl, hT⟩
  case round =>
    clear hT
    obtain ⟨k, hk, rfl, hT⟩ := hrel
    by_cases hlt : k < n + 1
    · have hsz : wr.heap.size = T + 1 + k := hT.2.2.1
      have c0 : ∀ o, (wr.alloc o).cell? ⟨T, k, none⟩ = some (.slice none 0 0) := fun o => by rw [(hT.1.alloc o).cell hlt, if_neg (by omega)]
      have f0 : ∀ o, (wr.alloc o).frozen? ⟨T, k, none⟩ = false := fun o => (hT.1.alloc o).frozen k
      have hP := ra_row hT
      clear hT
      go_wp2_with (at_make; refine wpList_make_row _ rfl _ _ 26 rfl 3 i0 (.int .i64 0) Try.underlying26 hi hz0 hz1 rfl .i64 .i64 (m + 1) rfl rfl (by rw [hz2]; omega) (by omega) ?_)
      go_wp2_with fail
      clear c0 f0
      generalize World.setCell _ _ _ = wz at *
      go_loopw [8] (fun j wx => ∃ q : Nat, q ≤ m + 1 ∧ j = .int .i64 (q : Int) ∧ RaPart a b n m T k q w3 wx) (fun j _ => m + 1 - (intOf j).toNat)
      case atStart => exact ⟨0, Nat.zero_le _, rfl, hP⟩
      case round =>
        clear hP
        obtain ⟨q, hq, rfl, hP⟩ := hrel
        by_cases hlq : q < m + 1
        · obtain ⟨r, hr⟩ : ∃ r, k + r = n := ⟨n - k, by omega⟩
          obtain ⟨s, hs⟩ : ∃ s, q + s = m := ⟨m - q, by omega⟩
          have hT1 := (hT0.below (by rw [hTe]; exact hP.2.2.2.2)) r (by omega)
          have t1 := hT1.1
          have t2 := hT1.2 s (by omega)
          rw [px_turned HN.out HM.out hr hs] at t2
          rw [show n - r = k by omega] at t1 t2
          have t3 := hP.1.cell (i := k) (by omega)
          rw [if_pos (by omega)] at t3
          have t4 := World.rowIs.cell hP.2.2.1 (i := q) (by omega)
          have t5 := World.rowIs.frozen hP.2.2.1 q
          have R := Lib.hid (fun v hv => ra_set (v := v) hP hv)
          have e1 : (n : Int) - (k : Int) = (r : Int) := by omega
          have e2 : (m : Int) - (q : Int) = (s : Int) := by omega
          have z1 : (r : Int) < (n : Int) + 1 := by omega
          have z2 : (s : Int) < (m : Int) + 1 := by omega
          clear hT1 hP
          generalize px a b k q = X at *
          go_wp2_with fail
          go_region
          go_wp2_with fail
          go_roundw
          case rel => exact ⟨q + 1, hlq, by go_num, (R.out _ rfl).drew⟩
          case measure => simp [intOf]; omega
        · obtain rfl : q = m + 1 := by omega
          have R := Lib.hid (ra_done hP)
          clear hP
          go_wp2_with fail
          go_roundw
          case rel => first | exact ⟨k + 1, hlt, by go_num, R.out⟩ | ((repeat apply Exists.intro); exact ⟨⟨k + 1, hlt, by go_num, R.out⟩, rfl⟩)
          case measure => simp [intOf]; omega
    · obtain rfl : k = n + 1 := by omega
      have HF : Hid (TabMade (fun r c => (px a b r c : Nat)) n m w (.returned (.slice (some ⟨T, 0, none⟩) (n + 1) (n + 1))) wr) := ⟨T, _, rfl, by rw [← hTe]; exact hBw.size, ra_all hT, hBw.trans (hT.2.2.2.mono (by rw [← hTe]; exact hBw.size))⟩
      clear hT
      go_wp2_with fail
      go_ret
      exact HF.out

end Go.Proofs.Ytejpbjglfjhjkaa
