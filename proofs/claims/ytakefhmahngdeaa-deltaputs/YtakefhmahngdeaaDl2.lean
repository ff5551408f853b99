/-
  Contract of package delta's Row.
-/
import Derived.Test.YtakefhmahngdeaaDl1
namespace Go.Proofs.Ytakefhmahngdeaa
open Go.RowKit

/-- The head of a round of Row. -/
def RdF (first : Int) (d : List UInt8) (k : Nat) : Nat → Int := fun c => if c ≤ k then rowD first d c else 0
def RdRel (first : Int) (d : List UInt8) (n : Nat) (w : World) (i : Value) (wr : World) : Prop :=
  ∃ k : Nat, k ≤ n ∧ i = .int .i64 (k : Int) ∧ IsRow wr w.heap.size (n + 1) (RdF first d k) ∧ Below w.heap.size w wr
theorem rd_start {first : Int} {d : List UInt8} {n : Nat} {w wr : World} (h : IsRow wr w.heap.size (n + 1) (fun _ => 0)) (hb : Below w.heap.size w wr) : RdRel first d n w (.int .i64 0) (wr.setCell ⟨w.heap.size, 0, none⟩ (.int .i64 first)) := by
  refine ⟨0, Nat.zero_le _, rfl, ?_, hb.setCell (Nat.le_refl _) _⟩
  refine World.rowIs.congr (nx_start h first) fun c _ => ?_
  unfold RdF
  try dsimp only
  by_cases e : c = 0
  · subst e; rfl
  · rw [if_neg e, if_neg (by omega)]
theorem rd_same {first : Int} {d : List UInt8} {n k : Nat} {w wr : World} (hk : k < n) (h : IsRow wr w.heap.size (n + 1) (RdF first d k)) (hb : Below w.heap.size w wr) (e : bget d k = 0) : RdRel first d n w (.int .i64 ((k + 1 : Nat) : Int)) (wr.setCell ⟨w.heap.size, k + 1, none⟩ (.int .i64 (rowD first d k))) := by
  refine ⟨k + 1, hk, rfl, ?_, hb.setCell (Nat.le_refl _) _⟩
  refine World.rowIs.congr (World.rowIs.set h (k + 1) _) fun c _ => ?_
  unfold RdF
  try dsimp only
  by_cases g : c = k + 1
  · subst g
    rw [if_pos rfl, if_pos (Nat.le_refl _), rowD, if_pos e]
  · rw [if_neg g]
    by_cases g2 : c ≤ k
    · rw [if_pos g2, if_pos (by omega)]
    · rw [if_neg g2, if_neg (by omega)]
theorem rd_up {first : Int} {d : List UInt8} {n k : Nat} {w wr : World} (hk : k < n) (h : IsRow wr w.heap.size (n + 1) (RdF first d k)) (hb : Below w.heap.size w wr) (e : bget d k ≠ 0) {z : Int} (hz : z = IntKind.i64.wrap (rowD first d k + 1)) : RdRel first d n w (.int .i64 ((k + 1 : Nat) : Int)) ((wr.setCell ⟨w.heap.size, k + 1, none⟩ (.int .i64 (rowD first d k))).setCell ⟨w.heap.size, k + 1, none⟩ (.int .i64 z)) := by
  subst hz
  refine ⟨k + 1, hk, rfl, ?_, (hb.setCell (Nat.le_refl _) _).setCell (Nat.le_refl _) _⟩
  refine World.rowIs.congr (World.rowIs.set (World.rowIs.set h (k + 1) _) (k + 1) _) fun c _ => ?_
  unfold RdF
  try dsimp only
  by_cases g : c = k + 1
  · subst g
    rw [if_pos rfl, if_pos (Nat.le_refl _), rowD, if_neg e]
  · rw [if_neg g, if_neg g]
    by_cases g2 : c ≤ k
    · rw [if_pos g2, if_pos (by omega)]
    · rw [if_neg g2, if_neg (by omega)]

theorem byte_ne {b : UInt8} (h : b ≠ 0) : ((b.toNat : Int) != 0) = true := by
  simp only [bne_iff_ne, ne_eq]
  intro e
  apply h
  have : b.toNat = 0 := by omega
  exact UInt8.toNat_inj.1 this

set_option maxRecDepth 100000 in
set_option maxHeartbeats 1600000 in
theorem prow_any (first : Int) (A : Option Addr) (n c : Nat) (d : List UInt8) (w : World) (hn : d.length = n) (hb : n ≤ 1048576) (hr : Row w A (bv d)) :
    Calls Try.prog 12 #[.int .i64 first, .slice A n c] w (MadeI (rowDL first d) w) := by
  obtain ⟨i0, hi, hz0, hz1, hz2⟩ := info_parts Try.infoInt
  have HN := Lib.hid hn
  clear hn
  go_enter Try.func12, Try.ntmps12
  go_upto_region 2 with (at_make; refine wpList_make_row _ rfl _ _ 27 rfl 3 i0 (.int .i64 0) Try.underlying27 hi hz0 hz1 rfl .i64 .i64 (n + 1) rfl rfl (by rw [hz2]; omega) (by omega) ?_)
  have hI := fr_made w n
  have hBa : Below w.heap.size w (w.alloc (.cells (madeCells #[.int .i64 0] (n + 1)) 3)) := (Below.refl _ _).alloc (Nat.le_refl _) _
  generalize w.alloc (.cells (madeCells #[.int .i64 0] (n + 1)) 3) = wa at *
  have t1 := World.rowIs.cell hI (i := 0) (by omega)
  have t2 := World.rowIs.frozen hI 0
  have HS := Lib.hid (rd_start (first := first) (d := d) hI hBa)
  clear hI hBa
  go_wp2_with fail
  go_loopw [17] (fun i wr => RdRel first d n w i wr) (fun i _ => n - (intOf i).toNat)
  case atStart => exact HS.out
  case round =>
    clear HS t1 t2
    obtain ⟨k, hk, rfl, hI, hbr⟩ := hrel
    by_cases hlt : k < n
    · obtain ⟨g, o, rfl, hc⟩ := (hr.below hbr).byte (k := k) (by rw [HN.out]; exact hlt)
      have HX : Hid (bget d k = d[k]'(by rw [HN.out]; exact hlt)) := bget_of (List.getElem?_eq_getElem _)
      generalize d[k]'(by rw [HN.out]; exact hlt) = b at *
      have s1 := World.rowIs.cell hI (i := k) (by omega)
      have s2 := World.rowIs.cell hI (i := k + 1) (by omega)
      have s3 := World.rowIs.frozen hI (k + 1)
      rw [show RdF first d k k = rowD first d k from if_pos (Nat.le_refl _)] at s1
      rw [show RdF first d k (k + 1) = 0 from if_neg (by omega)] at s2
      by_cases hz : b = 0
      · have R := Lib.hid (rd_same hlt hI hbr (by rw [HX.out]; exact hz))
        have e1 : ((b.toNat : Int) != 0) = false := by subst hz; rfl
        clear hI hbr hr HX hz
        generalize rowD first d k = y at *
        go_wp2_with fail
        go_roundw
        case rel => exact R.out
        case measure => simp [intOf]; omega
      · have R := Lib.hid (fun z => rd_up (z := z) hlt hI hbr (by rw [HX.out]; exact hz))
        have e1 := byte_ne hz
        have q1 : (wr.setCell ⟨w.heap.size, k + 1, none⟩ (.int .i64 (rowD first d k))).cell? ⟨w.heap.size, k + 1, none⟩ = some (.int .i64 (rowD first d k)) := by
          have := World.rowIs.cell (World.rowIs.set hI (k + 1) (.int .i64 (rowD first d k))) (i := k + 1) (by omega)
          rwa [if_pos rfl] at this
        have q2 := World.rowIs.frozen (World.rowIs.set hI (k + 1) (.int .i64 (rowD first d k))) (k + 1)
        clear hI hbr hr HX hz
        generalize rowD first d k = y at *
        go_wp2_with fail
        go_roundw
        case rel => exact R.out _ (by rw [IntWalk.i64_left])
        case measure => simp [intOf]; omega
    · obtain rfl : k = n := by omega
      have HF := Lib.hid (made_isRow (l := rowDL first d) hI (Nat.le_refl _) hb (by unfold rowDL; rw [HN.out]; exact rowL_congr fun c hc => (if_pos hc).symm) hbr)
      clear hI hbr hr
      go_wp2_with fail
      go_ret
      exact HF.out

end Go.Proofs.Ytakefhmahngdeaa
