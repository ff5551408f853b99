/-
  Contracts of package grid's Len and Dist.
-/
import Derived.Test.YtdgijpbgbhpffaaGrP
import Derived.Deep.DeepCutAuto
import Derived.Deep.RegionWith
namespace Go.Proofs.Ytdgijpbgbhpffaa
open Go.RowKit

/-- Two rows: the last one that is done, and one to fill. -/
def LnRows (a b : List Int) (m i : Nat) (u v : Value) (w wr : World) : Prop :=
  ∃ (h g : Nat) (F G : Nat → Int), u = .slice (some ⟨h, 0, none⟩) (m + 1) (m + 1) ∧ v = .slice (some ⟨g, 0, none⟩) (m + 1) (m + 1) ∧ g ≠ h ∧ w.heap.size ≤ g ∧ w.heap.size ≤ h ∧ IsRow wr h (m + 1) G ∧ IsRow wr g (m + 1) F ∧ F 0 = 0 ∧ (∀ c, c ≤ m → G c = (px a b i c : Nat)) ∧ Below w.heap.size w wr
theorem ln_made (w : World) (m : Nat) : IsRow (w.alloc (.cells (madeCells #[.int .i64 0] (m + 1)) 3)) w.heap.size (m + 1) (fun _ => 0) := World.rowIs_made w _ _ _
theorem ln_two (a b : List Int) (m : Nat) (w : World) : let w2 := (w.drew.alloc (.cells (madeCells #[.int .i64 0] (m + 1)) 3)).alloc (.cells (madeCells #[.int .i64 0] (m + 1)) 3)
    LnRows a b m 0 (.slice (some ⟨w.heap.size, 0, none⟩) (m + 1) (m + 1)) (.slice (some ⟨w.heap.size + 1, 0, none⟩) (m + 1) (m + 1)) w w2 ∧ LnRows a b m 0 (.slice (some ⟨w.heap.size + 1, 0, none⟩) (m + 1) (m + 1)) (.slice (some ⟨w.heap.size, 0, none⟩) (m + 1) (m + 1)) w w2 := by
  have r1 := World.rowIs.alloc (ln_made w.drew m) (.cells (madeCells #[.int .i64 0] (m + 1)) 3)
  have r2 := ln_made (w.drew.alloc (.cells (madeCells #[.int .i64 0] (m + 1)) 3)) m
  have hB : Below w.heap.size w ((w.drew.alloc (.cells (madeCells #[.int .i64 0] (m + 1)) 3)).alloc (.cells (madeCells #[.int .i64 0] (m + 1)) 3)) := (((Below.refl _ w).drew).alloc (Nat.le_refl _) _).alloc (by simp) _
  have hz : ∀ c, c ≤ m → (fun _ : Nat => (0 : Int)) c = (px a b 0 c : Nat) := fun c _ => by rw [px_zero_left]; rfl
  simp only [World.size_alloc] at r2
  exact ⟨⟨_, _, _, _, rfl, rfl, by omega, by omega, by omega, r1, r2, rfl, hz, hB⟩, ⟨_, _, _, _, rfl, rfl, by omega, by omega, by omega, r2, r1, rfl, hz, hB⟩⟩

set_option maxRecDepth 100000 in
set_option maxHeartbeats 1600000 in
theorem plen_any (A B : Option Addr) (n m c d : Nat) (a b : List Int) (w : World) (hn : a.length = n) (hm : b.length = m) (hb : n ≤ 1048576) (hb' : m ≤ 1048576) (h1 : Row w A (iv a)) (h2 : Row w B (iv b)) :
    Calls Try.prog 15 #[.slice A n c, .slice B m d] w fun e w' => e = .returned (.int .i64 (lcs a b : Nat)) ∧ Below w.heap.size w w' := by
  obtain ⟨i0, hi, hz0, hz1, hz2⟩ := info_parts Try.infoInt
  have HN := Lib.hid hn
  have HM := Lib.hid hm
  clear hn hm
  have hmk : ∀ w, (Instr.makeSlice 25 (.int .i64 ((m : Int) + 1)) (.int .i64 ((m : Int) + 1))).run Try.prog w = .ok (.slice (some ⟨w.heap.size, 0, none⟩) (m + 1) (m + 1)) (w.alloc (.cells (madeCells #[.int .i64 0] (m + 1)) 3)) := fun w => by
    have h := run_make_row (P := Try.prog) 25 3 i0 (.int .i64 0) Try.underlying25 hi hz0 hz1 rfl .i64 .i64 (m + 1) (by rw [hz2]; omega) (by omega) w
    rw [Int.natCast_succ] at h
    exact h
  go_enter Try.func15, Try.ntmps15
  go_upto_region 1 with (fail)
  go_cut [5, 6] (fun u v wx => LnRows a b m 0 u v w wx)
  case first =>
    have HT := Lib.hid (ln_two a b m w)
    go_region
    all_goals (go_wp2_with fail; go_meet; first | exact HT.out.1 | exact HT.out.2)
  case rest =>
    clear hmk
    go_wp2_with fail
    go_loopw [5, 6, 19] (fun u v i wr => ∃ k : Nat, k ≤ n ∧ i = .int .i64 (k : Int) ∧ LnRows a b m k u v w wr) (fun _ _ i _ => n - (intOf i).toNat)
    case atStart => exact ⟨0, Nat.zero_le _, rfl, hcut⟩
    case round =>
      clear hcut
      obtain ⟨k, hk, rfl, hh, gg, F, G, rfl, rfl, q1, q2, q3, q4, q5, q6, q7, q8⟩ := hrel
      by_cases hlt : k < n
      · obtain ⟨ga, oa, rfl, hc⟩ := (h1.below q8).int (k := k) (by rw [HN.out]; exact hlt)
        have HX : Hid (a[k]? = some (a[k]'(by rw [HN.out]; exact hlt))) := List.getElem?_eq_getElem _
        generalize a[k]'(by rw [HN.out]; exact hlt) = x at *
        clear h1
        go_wp2_with fail
        refine (fillAhead_any x B m d gg hh (m + 1) (m + 1) b G F w wr HM.out hb' h2 q8 q2 q1 q4 q5).mono ?_
        rintro e w1 ⟨⟨v, rfl⟩, t1, t2⟩
        have R : Hid (LnRows a b m (k + 1) (.slice (some ⟨gg, 0, none⟩) (m + 1) (m + 1)) (.slice (some ⟨hh, 0, none⟩) (m + 1) (m + 1)) w w1) :=
          ⟨gg, hh, G, _, rfl, rfl, Ne.symm q1, q3, q2, t1, rowIs_grown q4 t2 (fun e => q1 (by injection e with e; exact e.symm)), by rw [q7 0 (Nat.zero_le _), px_zero_right]; rfl,
            fun c hc => by have := fillA_row (F := F) HX.out (by rw [HN.out]; exact hb) (fun c hc => q7 c (by rw [← HM.out]; exact hc)) q6 c (by rw [HM.out]; exact hc); rw [HM.out] at this; exact this, q8.grown t2 q8.size (fun r e => by cases e; exact q2)⟩
        clear q4 q5 q7 q8 t1 t2 hc h2
        go_wp2_with fail
        go_roundw
        case rel => exact ⟨k + 1, by omega, by go_num, R.out⟩
        case measure => simp [intOf]; omega
      · obtain rfl : k = n := by omega
        have t0 := World.rowIs.cell q4 (i := m) (by omega)
        rw [q7 m (Nat.le_refl _)] at t0
        have e0 : px a b k m = lcs a b := by rw [← HN.out, ← HM.out]; exact px_all a b
        rw [e0] at t0
        clear q4 q5 q7 e0
        go_wp2_with fail
        go_ret
        exact ⟨rfl, q8⟩

set_option maxHeartbeats 800000 in
theorem pdist_any (A B : Option Addr) (n m c d : Nat) (a b : List Int) (w : World) (hn : a.length = n) (hm : b.length = m) (hb : n ≤ 1048576) (hb' : m ≤ 1048576) (h1 : Row w A (iv a)) (h2 : Row w B (iv b)) :
    Calls Try.prog 16 #[.slice A n c, .slice B m d] w fun e w' => e = .returned (.int .i64 (dist a b : Nat)) ∧ Below w.heap.size w w' := by
  have l1 := lcs_le_left a b
  have l2 := lcs_le_right a b
  have HD := Lib.hid (dist_int a b)
  rw [hn, hm] at HD
  rw [hn] at l1
  rw [hm] at l2
  have C := Lib.hid (plen_any A B n m c d a b w hn hm hb hb' h1 h2)
  clear h1 h2 hn hm
  generalize lcs a b = L at *
  generalize dist a b = D at *
  go_enter Try.func16, Try.ntmps16
  go_wp2_with fail
  refine C.out.mono ?_
  rintro e w1 ⟨rfl, hB⟩
  go_wp2_with fail
  go_ret
  exact ⟨ret_int (by have := HD.out; omega), hB⟩

end Go.Proofs.Ytdgijpbgbhpffaa
