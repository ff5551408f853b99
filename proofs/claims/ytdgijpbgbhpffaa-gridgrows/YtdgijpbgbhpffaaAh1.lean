/-
  Contract of package grid's Ahead.
-/
import Derived.Test.YtdgijpbgbhpffaaTb1
import Derived.Deep.RegionWith
namespace Go.Proofs.Ytdgijpbgbhpffaa
open Go.RowKit

/-- What is known of a table that is returned. -/
def TabMade (f : Nat → Nat → Int) (n m : Nat) (w : World) (e : Ending) (w' : World) : Prop :=
  ∃ T blk, e = .returned (.slice (some ⟨T, 0, none⟩) (n + 1) (n + 1)) ∧ w.heap.size ≤ T ∧ Tab f n m T blk w' ∧ Below w.heap.size w w'
theorem TabMade.congr {f f' : Nat → Nat → Int} {n m : Nat} {w w' : World} {e : Ending} (h : TabMade f n m w e w') (ef : ∀ r, r ≤ n → ∀ c, c ≤ m → f r c = f' r c) : TabMade f' n m w e w' := by
  obtain ⟨T, blk, h1, h2, h3, h4⟩ := h
  exact ⟨T, blk, h1, h2, h3.congr ef, h4⟩
/-- The rows up to k are done. -/
def ahF (a b : List Int) (k r c : Nat) : Int := if r ≤ k then (px a b r c : Nat) else 0
theorem ah_step {a b : List Int} {n m T k : Nat} {x : Int} {w w' wr : World} (hn : a.length = n) (hm : b.length = m) (hb : n ≤ 1048576) (hx : a[k]? = some x) (h : Tab (ahF a b k) n m T (fun r => T + 1 + r) wr) (t1 : IsRow w' (T + 1 + (k + 1)) (m + 1) (fillA x b (ahF a b k k) (ahF a b k (k + 1)) m)) (t2 : wr.grownBy w' (some (T + 1 + (k + 1)))) (hB : Below w.heap.size w wr) (hT : w.heap.size ≤ T) :
    Tab (ahF a b (k + 1)) n m T (fun r => T + 1 + r) w' ∧ Below w.heap.size w w' := by
  refine ⟨(h.grown (r0 := k + 1) t2 (by omega) (fun r _ hr => by omega) t1).congr fun r hr c hc => ?_, hB.grown t2 hB.size (fun r e => by cases e; omega)⟩
  by_cases e : r = k + 1
  · subst e
    rw [if_pos rfl]
    have := fillA_row (G := ahF a b k k) (F := ahF a b k (k + 1)) hx (by omega) (fun c _ => by unfold ahF; rw [if_pos (Nat.le_refl _)]) (by unfold ahF; rw [if_neg (by omega)]) c (by omega)
    rw [hm] at this
    rw [this]
    unfold ahF
    rw [if_pos (Nat.le_refl _)]
  · rw [if_neg e]
    unfold ahF
    by_cases g : r ≤ k
    · rw [if_pos g, if_pos (by omega)]
    · rw [if_neg g, if_neg (by omega)]

set_option maxRecDepth 100000 in
set_option maxHeartbeats 1600000 in
theorem ahead_any (A B : Option Addr) (n m c d : Nat) (a b : List Int) (w : World) (hn : a.length = n) (hm : b.length = m) (hb : n ≤ 1048576) (hb' : m ≤ 1048576) (h1 : Row w A (iv a)) (h2 : Row w B (iv b)) :
    Calls Try.prog 13 #[.slice A n c, .slice B m d] w (TabMade (fun r c => (px a b r c : Nat)) n m w) := by
  have HN := Lib.hid hn
  have HM := Lib.hid hm
  clear hn hm
  go_enter Try.func13, Try.ntmps13
  go_wp2_with fail
  refine (table_any A B n m c d w hb hb').mono ?_
  rintro e w1 ⟨rfl, hT, hB, _⟩
  have HS : Hid (Tab (ahF a b 0) n m w.heap.size (fun r => w.heap.size + 1 + r) w1) := hT.congr fun r _ c _ => by unfold ahF; split; (· rw [show r = 0 by omega, px_zero_left]; rfl); (· rfl)
  clear hT
  go_wp2_with fail
  go_loopw [13] (fun i wr => ∃ k : Nat, k ≤ n ∧ i = .int .i64 (k : Int) ∧ Tab (ahF a b k) n m w.heap.size (fun r => w.heap.size + 1 + r) wr ∧ Below w.heap.size w wr) (fun i _ => n - (intOf i).toNat)
  case atStart => exact ⟨0, Nat.zero_le _, rfl, HS.out, hB⟩
  case round =>
    clear HS hB
    obtain ⟨k, hk, rfl, hT, hB⟩ := hrel
    by_cases hlt : k < n
    · obtain ⟨ga, oa, rfl, hc⟩ := (h1.below hB).int (k := k) (by rw [HN.out]; exact hlt)
      have HX : Hid (a[k]? = some (a[k]'(by rw [HN.out]; exact hlt))) := List.getElem?_eq_getElem _
      generalize a[k]'(by rw [HN.out]; exact hlt) = x at *
      have t1 := hT.1.cell (i := k) (by omega)
      have t2 := hT.1.cell (i := k + 1) (by omega)
      have C := Lib.hid (fillAhead_any x B m d (w.heap.size + 1 + (k + 1)) (w.heap.size + 1 + k) (m + 1) (m + 1) b _ _ w wr.drew HM.out hb' h2 hB.drew (by omega) (by omega) (hT.2 k (by omega)) (hT.2 (k + 1) (by omega)))
      have R := Lib.hid (fun w' => ah_step (w := w) (w' := w') HN.out HM.out hb HX.out (Tab.drew hT) (hB := hB.drew) (hT := Nat.le_refl _))
      have zw : IntKind.i64.wrap ((k : Int) + 1) = (k : Int) + 1 := IntWalk.i64_in _ (by omega)
      have z1 : (k : Int) < (n : Int) := by omega
      have z2 : ((k : Int) + 1).toNat = k + 1 := by omega
      have z3 : 0 ≤ (k : Int) + 1 := by omega
      clear h1 hT hB h2
      go_wp2_with fail
      go_region_with (go_at_call 31; refine C.out.mono ?_; rintro e w2 ⟨⟨v, rfl⟩, s1, s2⟩; have R2 := Lib.hid (R.out w2 s1 s2); clear s1 s2)
      all_goals (go_wp2_with fail; go_roundw)
      all_goals first | exact ⟨k + 1, by omega, by go_num, R2.out.1, R2.out.2⟩ | (simp [intOf]; omega)
    · obtain rfl : k = n := by omega
      have HF : Hid (TabMade (fun r c => (px a b r c : Nat)) k m w (.returned (.slice (some ⟨w.heap.size, 0, none⟩) (k + 1) (k + 1))) wr) := ⟨_, _, rfl, Nat.le_refl _, hT.congr fun r hr c _ => by unfold ahF; rw [if_pos hr], hB⟩
      clear hT hB
      go_wp2_with fail
      go_ret
      exact HF.out

end Go.Proofs.Ytdgijpbgbhpffaa
