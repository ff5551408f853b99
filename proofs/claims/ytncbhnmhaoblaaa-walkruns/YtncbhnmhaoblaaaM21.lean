/-
  Words and contracts that the proof leans on.
-/
import Derived.Test.YtncbhnmhaoblaaaM18
import Derived.Test.YtncbhnmhaoblaaaM4
import Derived.Test.YtncbhnmhaoblaaaM3
import Derived.BigRegion
namespace Go.Proofs.Ytncbhnmhaoblaaa
open Go.RowKit

theorem Try.infoInts1 : (Try.prog.info? 26).map (fun i => (i.zero, i.size, i.bytes)) = some (some (.slice none 0 0), 1, 24) := by kernel_rfl

/-- What Behind leaves. -/
def BhMade (a b : List Int) (n m : Nat) (w : World) (e : Ending) (w' : World) : Prop :=
  e = .returned (.slice (some ⟨w.heap.size, 0, none⟩) (n + 1) (n + 1)) ∧ Table a b n m w.heap.size w' ∧ Below w.heap.size w w'

/-- The head of a round of the outer loop. -/
def BhRel (a b : List Int) (n m : Nat) (w : World) (i : Value) (wr : World) : Prop :=
  (∃ r k, r + k = n ∧ i = .int .i64 (r : Int) ∧ Tbl a b n m w.heap.size k wr ∧ Below w.heap.size w wr) ∨ (i = .int .i64 (-1) ∧ Tbl a b n m w.heap.size (n + 1) wr ∧ Below w.heap.size w wr)
/-- The head of a round of the inner loop. -/
def BiRel (a b : List Int) (n m r k : Nat) (w : World) (j : Value) (wr : World) : Prop :=
  (∃ c, c < m ∧ j = .int .i64 (c : Int) ∧ Part a b n m w.heap.size r k (c + 1) wr ∧ Below w.heap.size w wr) ∨ (j = .int .i64 (-1) ∧ Part a b n m w.heap.size r k 0 wr ∧ Below w.heap.size w wr)

theorem bh_next {a b : List Int} {n m r k : Nat} {w wr : World} {x : Int} (hr : r + k = n) (hx : x = (r : Int) - 1) (h : Part a b n m w.heap.size r k 0 wr) (hb : Below w.heap.size w wr) : BhRel a b n m w (.int .i64 x) wr := by
  have h' := part_done h hr
  subst hx
  cases r with
  | zero => exact .inr ⟨by simp, by rw [show n = k by omega]; rw [show n = k by omega] at h'; exact h', hb⟩
  | succ r => exact .inl ⟨r, k + 1, by omega, by congr 1; omega, h', hb⟩
theorem bi_next {a b : List Int} {n m r k c : Nat} {w wr : World} {x v : Int} (hc : c < m) (hx : x = (c : Int) - 1) (hv : v = (lx a b r c : Nat)) (h : Part a b n m w.heap.size r k (c + 1) wr) (hb : Below w.heap.size w wr) : BiRel a b n m r k w (.int .i64 x) (wr.setCell ⟨w.heap.size + 1 + k, c, none⟩ (.int .i64 v)) := by
  have h' := part_set h hv
  have hb' : Below w.heap.size w (wr.setCell ⟨w.heap.size + 1 + k, c, none⟩ (.int .i64 v)) := hb.setCell (by show _ ≤ w.heap.size + 1 + k; omega) _
  subst hx
  cases c with
  | zero => exact .inr ⟨by simp, h', hb'⟩
  | succ c => exact .inl ⟨c, by omega, by congr 1; omega, h', hb'⟩
theorem bi_start {a b : List Int} {n m r k : Nat} {w wr : World} {x : Int} (hx : x = (m : Int) - 1) (h : Part a b n m w.heap.size r k m wr) (hb : Below w.heap.size w wr) : BiRel a b n m r k w (.int .i64 x) wr := by
  subst hx
  cases m with
  | zero => exact .inr ⟨by simp, h, hb⟩
  | succ m => exact .inl ⟨m, by omega, by congr 1; omega, h, hb⟩

theorem lx_le (a b : List Int) (r c : Nat) : lx a b r c ≤ a.length := Nat.le_trans (lcs_le_left _ _) (by rw [List.length_drop]; omega)
theorem part_drew {a b : List Int} {n m T r k c0 : Nat} {wr : World} (h : Part a b n m T r k c0 wr) : Part a b n m T r k c0 wr.drew := h

set_option maxRecDepth 100000 in
set_option maxHeartbeats 3200000 in
theorem behind_any (A B : Option Addr) (n m c d : Nat) (a b : List Int) (w : World) (hn : a.length = n) (hm : b.length = m) (hb : n ≤ 1048576) (hb' : m ≤ 1048576) (h1 : Row w A (iv a)) (h2 : Row w B (iv b)) :
    Calls Try.prog 33 #[.slice A n c, .slice B m d] w (BhMade a b n m w) := by
  obtain ⟨i0, hi, hz0, hz1, hz2⟩ := info_parts Try.infoInt
  obtain ⟨j0, ji, jz0, jz1, jz2⟩ := info_parts Try.infoInts1
  have HN := Lib.hid hn
  have HM := Lib.hid hm
  clear hn hm
  go_enter Try.func33, Try.ntmps33
  go_wp2_with (at_make; refine wpList_make_row _ rfl _ _ 56 rfl 26 j0 (.slice none 0 0) Try.underlying56 ji jz0 jz1 rfl .i64 .i64 (n + 1) rfl rfl (by rw [jz2]; omega) (by omega) ?_)
  have hT := tbl_start a b n m w
  have hB0 : Below w.heap.size w (w.alloc (.cells (madeCells #[.slice none 0 0] (n + 1)) 26)) := (Below.refl _ _).alloc (Nat.le_refl _) _
  generalize w.alloc (.cells (madeCells #[.slice none 0 0] (n + 1)) 26) = w0 at *
  go_wp2_with fail
  go_loopw [6] (fun i wr => BhRel a b n m w i wr) (fun i _ => (intOf i + 1).toNat)
  case atStart => exact .inl ⟨n, 0, rfl, rfl, hT, hB0⟩
  case round =>
    clear hT hB0
    rcases hrel with ⟨r, k, hrk, rfl, hT, hB⟩ | ⟨rfl, hT, hB⟩
    · have hsz : wr.heap.size = w.heap.size + 1 + k := hT.2.2
      have hrn : r < n + 1 := by omega
      have c0 : ∀ o, (wr.alloc o).cell? ⟨w.heap.size, r, none⟩ = some (TopF w.heap.size n m k r) := fun o => (hT.1.alloc o).cell hrn
      have f0 : ∀ o, (wr.alloc o).frozen? ⟨w.heap.size, r, none⟩ = false := fun o => (hT.1.alloc o).frozen r
      have hP := tbl_row hT hrk HM.out
      have hPB : Below w.heap.size w ((wr.alloc (.cells (madeCells #[.int .i64 0] (m + 1)) 3)).setCell ⟨w.heap.size, r, none⟩ (.slice (some ⟨wr.heap.size, 0, none⟩) (m + 1) (m + 1))) := (hB.alloc (by omega) _).setCell (Nat.le_refl _) _
      rw [hsz] at hP hPB
      clear hT hB
      go_wp2_with (at_make; refine wpList_make_row _ rfl _ _ 26 rfl 3 i0 (.int .i64 0) Try.underlying26 hi hz0 hz1 rfl .i64 .i64 (m + 1) rfl rfl (by rw [hz2]; omega) (by omega) ?_)
      go_wp2_with fail
      clear c0 f0
      generalize World.setCell _ _ _ = wz at *
      go_loopw [7] (fun j wx => BiRel a b n m r k w j wx) (fun j _ => (intOf j + 1).toNat)
      case atStart => exact bi_start (by omega) hP hPB
      case round =>
        clear hP hPB
        rcases hrel with ⟨cc, hcc, rfl, hP, hPB⟩ | ⟨rfl, hP, hPB⟩
        · by_cases hr : r < n
          · obtain ⟨g, o, rfl, hc⟩ := (h1.below hPB).int (k := r) (by rw [HN.out]; exact hr)
            obtain ⟨g', o', rfl, hd⟩ := (h2.below hPB).int (k := cc) (by rw [HM.out]; exact hcc)
            have HX : Hid (a[r]? = some (a[r]'(by rw [HN.out]; exact hr))) := List.getElem?_eq_getElem _
            have HY : Hid (b[cc]? = some (b[cc]'(by rw [HM.out]; exact hcc))) := List.getElem?_eq_getElem _
            generalize a[r]'(by rw [HN.out]; exact hr) = x at *
            generalize b[cc]'(by rw [HM.out]; exact hcc) = y at *
            clear h1 h2
            obtain ⟨k', rfl⟩ : ∃ k', k = k' + 1 := ⟨k - 1, by omega⟩
            have lz := lx_le a b (r + 1) (cc + 1)
            have l1 := lx_le a b (r + 1) cc
            have l2 := lx_le a b r (cc + 1)
            rw [HN.out] at lz l1 l2
            by_cases heq : x = y
            · subst heq
              have HV := Lib.hid (lx_same HX.out HY.out)
              go_wp2_with fail
              go_quiet (fail)
              have hP1 : Part a b n m w.heap.size r (k' + 1) (cc + 1) (wr.drewN nq) := hP
              have hPB1 : Below w.heap.size w (wr.drewN nq) := below_drewN hPB nq
              clear hP hPB hc hd
              generalize wr.drewN nq = wy at *
              have t1 := part_top hP1 (i := r) (by omega) (by omega)
              rw [show n - r = k' + 1 by omega] at t1
              have t2 := part_top hP1 (i := r + 1) (by omega) (by omega)
              rw [show n - (r + 1) = k' by omega] at t2
              have t3 := part_old hP1 (i := r + 1) (j := cc + 1) (by omega) (by omega) (by omega)
              rw [show n - (r + 1) = k' by omega] at t3
              have t4 := part_zero hP1 (j := cc) (by omega) (by omega)
              have t5 := part_frozen hP1 cc
              generalize lx a b (r + 1) (cc + 1) = Z at *
              go_wp2_with fail
              go_region
              go_wp2_with fail
              go_roundw
              case rel => exact bi_next hcc (by omega) (by have := HV.out; omega) (part_drew hP1) (Below.drew hPB1)
              case measure => simp [intOf]
            · have hz : (x == y) = false := by simpa using heq
              have HV := Lib.hid (lx_other HX.out HY.out heq)
              clear heq
              by_cases hXY : lx a b (r + 1) cc < lx a b r (cc + 1)
              · go_wp2_with fail
                go_quiet (fail)
                have hP1 : Part a b n m w.heap.size r (k' + 1) (cc + 1) (wr.drewN nq) := hP
                have hPB1 : Below w.heap.size w (wr.drewN nq) := below_drewN hPB nq
                clear hP hPB hc hd
                generalize wr.drewN nq = wy at *
                have t1 := part_top hP1 (i := r) (by omega) (by omega)
                rw [show n - r = k' + 1 by omega] at t1
                have t2 := part_top hP1 (i := r + 1) (by omega) (by omega)
                rw [show n - (r + 1) = k' by omega] at t2
                have t3 := part_old hP1 (i := r + 1) (j := cc) (by omega) (by omega) (by omega)
                rw [show n - (r + 1) = k' by omega] at t3
                have t4 := part_zero hP1 (j := cc) (by omega) (by omega)
                have t5 := part_frozen hP1 cc
                have t6 := part_new hP1 (j := cc + 1) (by omega) (by omega)
                generalize lx a b (r + 1) cc = X at *
                generalize lx a b r (cc + 1) = Y at *
                go_wp2_with fail
                go_region
                go_wp2_with fail
                go_roundw
                case rel => exact bi_next hcc (by omega) (by have := HV.out; omega) (part_drew hP1) (Below.drew hPB1)
                case measure => simp [intOf]
              · go_wp2_with fail
                go_quiet (fail)
                have hP1 : Part a b n m w.heap.size r (k' + 1) (cc + 1) (wr.drewN nq) := hP
                have hPB1 : Below w.heap.size w (wr.drewN nq) := below_drewN hPB nq
                clear hP hPB hc hd
                generalize wr.drewN nq = wy at *
                have t1 := part_top hP1 (i := r) (by omega) (by omega)
                rw [show n - r = k' + 1 by omega] at t1
                have t2 := part_top hP1 (i := r + 1) (by omega) (by omega)
                rw [show n - (r + 1) = k' by omega] at t2
                have t3 := part_old hP1 (i := r + 1) (j := cc) (by omega) (by omega) (by omega)
                rw [show n - (r + 1) = k' by omega] at t3
                have t4 := part_zero hP1 (j := cc) (by omega) (by omega)
                have t5 := part_frozen hP1 cc
                have t6 := part_new hP1 (j := cc + 1) (by omega) (by omega)
                generalize lx a b (r + 1) cc = X at *
                generalize lx a b r (cc + 1) = Y at *
                go_wp2_with fail
                go_region
                go_wp2_with fail
                go_roundw
                case rel => exact bi_next hcc (by omega) (by have := HV.out; omega) (part_drew hP1) (Below.drew hPB1)
                case measure => simp [intOf]
          · have hPL := part_last hP (by rw [HN.out]; omega)
            clear hP
            go_wp2_with fail
            go_roundw
            case rel => first | exact bh_next hrk (by omega) hPL hPB | ((repeat apply Exists.intro); exact ⟨bh_next hrk (by omega) hPL hPB, rfl⟩)
            case measure => simp [intOf]
        · by_cases hr : r < n
          · go_wp2_with fail
            go_roundw
            case rel => first | exact bh_next hrk (by omega) hP hPB | ((repeat apply Exists.intro); exact ⟨bh_next hrk (by omega) hP hPB, rfl⟩)
            case measure => simp [intOf]
          · go_wp2_with fail
            go_roundw
            case rel => first | exact bh_next hrk (by omega) hP hPB | ((repeat apply Exists.intro); exact ⟨bh_next hrk (by omega) hP hPB, rfl⟩)
            case measure => simp [intOf]
    · have HF : Hid (BhMade a b n m w (.returned (.slice (some ⟨w.heap.size, 0, none⟩) (n + 1) (n + 1))) wr) := ⟨rfl, tbl_table hT, hB⟩
      clear hT hB
      go_wp2_with fail
      go_ret
      exact HF.out

end Go.Proofs.Ytncbhnmhaoblaaa

namespace Go.Proofs.Ytncbhnmhaoblaaa
open Go.RowKit

end Go.Proofs.Ytncbhnmhaoblaaa
