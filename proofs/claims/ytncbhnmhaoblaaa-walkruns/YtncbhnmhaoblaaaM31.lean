/-
  Words and contracts that the proof leans on.
-/
import Derived.Test.YtncbhnmhaoblaaaM30
import Derived.Test.YtncbhnmhaoblaaaM4
import Derived.Test.YtncbhnmhaoblaaaM22
import Derived.Test.YtncbhnmhaoblaaaM7
namespace Go.Proofs.Ytncbhnmhaoblaaa
open Go.RowKit

/-- A filled block is a new list. -/
theorem own_rowI {w : World} {B g n : Nat} {F : Nat → Int} (h : IsRow w g n F) (hB : B ≤ g) (hn : n ≤ maxLen) : w.ownsRow B 3 1 (.slice (some ⟨g, 0, none⟩) n n) n (iv ((List.range n).map F)) := by
  obtain ⟨c, h1, h2, h3⟩ := h
  refine own_of_heap hB hn (by simp [iv]) ?_
  rw [h1]
  congr 2
  refine Array.ext_getElem? fun i => ?_
  rcases Nat.lt_or_ge i n with g | g
  · rw [h3 i g]
    unfold iv
    rw [List.getElem?_toArray, List.getElem?_map, List.getElem?_map, List.getElem?_range g]
    rfl
  · rw [Array.getElem?_eq_none (by omega), List.getElem?_toArray, List.getElem?_eq_none (by simp [iv]; omega)]

/-- Kept's block while it is filled. -/
def ktF (e k c : Nat) : Int := if c < k then ((c * e : Nat) : Int) else 0
def KtRel (e K : Nat) (w : World) (i : Value) (wr : World) : Prop :=
  ∃ k : Nat, k ≤ K ∧ i = .int .i64 (k : Int) ∧ IsRow wr w.heap.size K (ktF e k) ∧ Below w.heap.size w wr
theorem kt_step {e K k : Nat} {w wr : World} (hk : k < K) (h : IsRow wr w.heap.size K (ktF e k)) (hB : Below w.heap.size w wr) : KtRel e K w (.int .i64 ((k + 1 : Nat) : Int)) (wr.setCell ⟨w.heap.size, k, none⟩ (.int .i64 ((k * e : Nat) : Int))) := by
  refine ⟨k + 1, hk, rfl, World.rowIs.congr (World.rowIs.set h k _) fun i _ => ?_, hB.setCell (Nat.le_refl _) _⟩
  show _ = Value.int .i64 (ktF e (k + 1) i)
  unfold ktF
  by_cases c : i = k
  · subst c
    rw [if_pos rfl, if_pos (by omega)]
  · rw [if_neg c]
    by_cases c2 : i < k
    · rw [if_pos c2, if_pos (by omega)]
    · rw [if_neg c2, if_neg (by omega)]

theorem kt_done {n e K : Nat} (hn : n ≤ 1048576) (he : 1 ≤ e) (hK : K = cntK n e) : (List.range K).map (ktF e K) = keptI n e := by
  subst hK
  rw [keptI_in hn he, kept_is he, cntK_in hn he]
  unfold keptQ
  apply List.map_congr_left
  intro c hc
  rw [List.mem_range] at hc
  unfold ktF
  rw [if_pos hc]

set_option maxRecDepth 100000 in
set_option maxHeartbeats 1600000 in
theorem wkept_any (n e : Int) (w : World) (hI : I64 n) (hE : I64 e) : Calls Try.prog 10 #[.int .i64 n, .int .i64 e] w (MadeI (keptI n e) w) := by
  obtain ⟨i0, hi, hz0, hz1, hz2⟩ := info_parts Try.infoInt
  have CC := Lib.hid (wcount_any n e w hI hE)
  have hKl := cntK_le n e
  by_cases h : 0 ≤ n ∧ n ≤ 1048576 ∧ 1 ≤ e
  · obtain ⟨N, rfl⟩ : ∃ N : Nat, n = (N : Int) := ⟨n.toNat, by omega⟩
    obtain ⟨E, rfl⟩ : ∃ E : Nat, e = (E : Int) := ⟨e.toNat, by omega⟩
    have HK := Lib.hid (fun K hK => kt_done (n := N) (e := E) (K := K) (by omega) (by omega) hK)
    have HM : Hid (∀ k, k < cntK (N : Int) (E : Int) → k * E ≤ 1048576) := fun k hk => by
      rw [cntK_in (by omega) (by omega)] at hk
      have := (Nat.le_div_iff_mul_le (show 0 < E by omega)).1 (show k ≤ (N - 1) / E by omega)
      omega
    have hE1 : (1 : Int) ≤ E := h.2.2
    generalize hX : keptI (N : Int) (E : Int) = X at *
    clear hX h hI
    generalize cntK (N : Int) (E : Int) = K at *
    have HK := Lib.hid (HK.out K rfl)
    go_enter Try.func10, Try.ntmps10
    go_wp2_with fail
    refine CC.out.mono ?_
    rintro x w1 ⟨rfl, rfl⟩
    clear CC
    go_wp2_with (at_make; refine wpList_make_row _ rfl _ _ 26 rfl 3 i0 (.int .i64 0) Try.underlying26 hi hz0 hz1 rfl .i64 .i64 K rfl rfl (by rw [hz2]; omega) (by omega) ?_)
    have hR0 : IsRow (w1.alloc (.cells (madeCells #[.int .i64 0] K) 3)) w1.heap.size K (ktF E 0) := World.rowIs_made w1 _ _ _
    have hB0 : Below w1.heap.size w1 (w1.alloc (.cells (madeCells #[.int .i64 0] K) 3)) := below_a1 _ _
    generalize w1.alloc (.cells (madeCells #[.int .i64 0] K) 3) = wa at *
    go_wp2_with fail
    go_loopw [13] (fun i wr => KtRel E K w1 i wr) (fun i _ => K - (RowKit.intOf i).toNat)
    case atStart => exact ⟨0, Nat.zero_le _, rfl, hR0, hB0⟩
    case round =>
      clear hR0 hB0
      obtain ⟨k, hk, rfl, hR, hB⟩ := hrel
      by_cases hlt : k < K
      · have R := kt_step hlt hR hB
        have hmb := HM.out k hlt
        have hc := World.rowIs.cell hR hlt
        have hf := World.rowIs.frozen hR k
        obtain ⟨M, hM⟩ : ∃ M, k * E = M := ⟨_, rfl⟩
        have m1 : (k : Int) * (E : Int) = (M : Int) := by rw [← hM]; simp
        rw [hM] at R hmb
        clear hM hR hB HM
        go_wp2_with fail
        go_roundw
        case rel => exact R
        case measure => simp [intOf]; omega
      · obtain rfl : k = K := by omega
        have HF : Hid (MadeI X w1 (.returned (.slice (some ⟨w1.heap.size, 0, none⟩) k k)) wr) := by
          have := own_rowI hR (Nat.le_refl _) (by unfold maxLen; omega)
          rw [HK.out] at this
          refine ⟨_, rfl, ?_, hB⟩
          have e1 : X.length = k := by rw [← HK.out]; simp
          rw [e1]
          exact this
        clear hR hB HM
        go_wp2_with fail
        go_ret
        exact HF.out
  · rw [keptI_no h]
    have e0 := cntK_no h
    rw [e0] at CC
    clear h hKl e0 hI
    go_enter Try.func10, Try.ntmps10
    go_wp2_with fail
    refine CC.out.mono ?_
    rintro x w1 ⟨rfl, rfl⟩
    clear CC
    go_wp2_with (at_make; refine wpList_make_row _ rfl _ _ 26 rfl 3 i0 (.int .i64 0) Try.underlying26 hi hz0 hz1 rfl .i64 .i64 0 rfl rfl (by rw [hz2]; omega) (by omega) ?_)
    have hO : Hid (MadeI [] w1 (.returned (.slice (some ⟨w1.heap.size, 0, none⟩) 0 0)) (w1.alloc (.cells (madeCells #[.int .i64 0] 0) 3))) :=
      ⟨_, rfl, own_rowI (F := fun _ => 0) (World.rowIs_made w1 (.int .i64 0) 0 3) (Nat.le_refl _) (by unfold maxLen; omega), below_a1 _ _⟩
    generalize w1.alloc (.cells (madeCells #[.int .i64 0] 0) 3) = wa at *
    go_wp2_with fail
    go_loopw [13] (fun i wr => i = .int .i64 0 ∧ wr = wa) (fun i _ => 0)
    case atStart => exact ⟨rfl, rfl⟩
    case round =>
      obtain ⟨rfl, rfl⟩ := hrel
      go_wp2_with fail
      go_ret
      exact hO.out

/-- The head of a round of Root. -/
def RtRelWkB (x : Nat) (w : World) (v : Value) (wr : World) : Prop :=
  ∃ r : Nat, 1 ≤ r ∧ r ≤ 1024 ∧ v = .int .i64 (r : Int) ∧ (∀ s, 1 ≤ s → s < r → s * s < x) ∧ wr = w
/-- What Root leaves. -/
def RtMade (n : Int) (w : World) (e : Ending) (w' : World) : Prop := ∃ r : Nat, e = .returned (.int .i64 (r : Int)) ∧ IsRoot (min n 1048576).toNat r ∧ w' = w

set_option maxRecDepth 100000 in
set_option maxHeartbeats 1600000 in
theorem wroot_any (n : Int) (w : World) : Calls Try.prog 13 #[.int .i64 n] w (RtMade n w) := by
  have r1 : (if n < 1048576 then n else 1048576) = min n 1048576 := by omega
  have r2 : (if 1048576 < n then 1048576 else n) = min n 1048576 := by omega
  have HX : Hid (∀ r : Nat, IsRoot (min n 1048576).toNat r → RtMade n w (.returned (.int .i64 (r : Int))) w) := fun r h => ⟨r, rfl, h, rfl⟩
  have hXb : min n 1048576 ≤ 1048576 := by omega
  obtain ⟨Y, hY⟩ : ∃ Y, RtMade n w = Y := ⟨_, rfl⟩
  rw [hY] at HX ⊢
  generalize hX : min n 1048576 = X at *
  clear hY
  go_enter Try.func13, Try.ntmps13
  go_wp2_with fail
  go_loopw [3] (fun v wr => RtRelWkB X.toNat w v wr) (fun v _ => 1024 - (RowKit.intOf v).toNat)
  case atStart => exact ⟨1, Nat.le_refl _, by omega, rfl, fun s h1 h2 => by omega, rfl⟩
  case round =>
    obtain ⟨r, hr1, hr2, rfl, hs, rfl⟩ := hrel
    have hR := Nat.mul_le_mul hr2 hr2
    have hR1 := Nat.mul_le_mul hr1 hr1
    have HR : Hid (∀ s, r ≤ s → r * r ≤ s * s) := fun s h => Nat.mul_le_mul h h
    obtain ⟨R, hRR⟩ : ∃ R, r * r = R := ⟨_, rfl⟩
    have m1 : (r : Int) * (r : Int) = (R : Int) := by rw [← hRR]; simp
    have HS := Lib.hid hs
    rw [hRR] at hR hR1
    clear hs
    by_cases hlt : (R : Int) < X
    · have hb : r < 1024 := by
        rcases Nat.lt_or_ge r 1024 with h | h
        · exact h
        · have := HR.out 
          have h2 := Nat.mul_le_mul h h
          rw [hRR] at h2
          omega
      have HRel : Hid (RtRelWkB X.toNat wr (.int .i64 ((r + 1 : Nat) : Int)) wr) := ⟨r + 1, by omega, hb, rfl, fun s h1 h2 => by
        by_cases c : s < r
        · exact HS.out s h1 c
        · obtain rfl : s = r := by omega
          rw [hRR]; omega, rfl⟩
      clear HR hRR HS
      go_wp2_with fail
      go_roundw
      case rel => exact HRel.out
      case measure => simp [intOf]; omega
    · have HF := HX.out r (root_stop hr1 (by rw [hRR]; omega) HS.out)
      have HG := Lib.hid HF
      clear HF HX HR hRR HS
      go_wp2_with fail
      exact HG.out

end Go.Proofs.Ytncbhnmhaoblaaa

namespace Go.Proofs.Ytncbhnmhaoblaaa
open Go.RowKit

/-- How many words of rows are there at the same time. -/
def roomI (n m e : Int) : Int := if (0 ≤ n ∧ n ≤ 1048576 ∧ 1 ≤ e) ∧ 0 ≤ m ∧ m ≤ 1048576 then ((cntK n e : Nat) + min e n) * (wdsVc3 m : Nat) else 0
theorem roomI_no {n m e : Int} (h : ¬ ((0 ≤ n ∧ n ≤ 1048576 ∧ 1 ≤ e) ∧ 0 ≤ m ∧ m ≤ 1048576)) : roomI n m e = 0 := if_neg h
theorem roomI_in {n m e : Int} (h : (0 ≤ n ∧ n ≤ 1048576 ∧ 1 ≤ e) ∧ 0 ≤ m ∧ m ≤ 1048576) : ∃ K M W R : Nat, cntK n e = K ∧ 1 ≤ K ∧ K ≤ 1048576 ∧ min e n = (M : Int) ∧ M ≤ 1048576 ∧ wdsVc3 m = W ∧ W ≤ 16384 ∧ R ≤ 34359738368 ∧ ((K : Int) + (M : Int)) * (W : Int) = (R : Int) ∧ roomI n m e = (R : Int) := by
  have h1 := cntK_le n e
  have h2 := wds_le m
  have h3 : 1 ≤ cntK n e := by unfold cntK; rw [if_pos h.1]; exact Nat.le_add_left _ _
  obtain ⟨M, hM, hM1⟩ : ∃ M : Nat, min e n = (M : Int) ∧ M ≤ 1048576 := by
    rcases Int.le_total e n with g | g
    · rw [Int.min_eq_left g]
      exact ⟨e.toNat, by omega, by omega⟩
    · rw [Int.min_eq_right g]
      exact ⟨n.toNat, by omega, by omega⟩
  refine ⟨cntK n e, M, wdsVc3 m, (cntK n e + M) * wdsVc3 m, rfl, h3, h1, hM, hM1, rfl, h2, ?_, by simp, ?_⟩
  · have := Nat.mul_le_mul (show cntK n e + M ≤ 2097152 by omega) h2
    omega
  · unfold roomI
    rw [if_pos h, hM]
    simp

set_option maxRecDepth 100000 in
set_option maxHeartbeats 1600000 in
theorem wroom_any (n m e : Int) (w : World) (hI : I64 n) (hE : I64 e) : Calls Try.prog 12 #[.int .i64 n, .int .i64 m, .int .i64 e] w fun x w' => x = .returned (.int .i64 (roomI n m e)) ∧ w' = w := by
  have CC := Lib.hid (wcount_any n e w hI hE)
  by_cases h : (0 ≤ n ∧ n ≤ 1048576 ∧ 1 ≤ e) ∧ 0 ≤ m ∧ m ≤ 1048576
  · obtain ⟨K, M, W, R, hK, k1, k2, hM, hM1, hW, hW1, hR, m1, eR⟩ := roomI_in h
    have HW := Lib.hid (pwords m w)
    rw [hW] at HW
    rw [hK] at CC
    rw [eR]
    have r1 : (if e < n then e else n) = (M : Int) := by omega
    have r2 : (if n < e then n else e) = (M : Int) := by omega
    have h4 := h.2.1
    have h5 := h.2.2
    have z0 : ((K : Int) == 0) = false := by simp; omega
    have z1 : ¬ (m < 0) := by omega
    have z2 : ¬ (1048576 < m) := by omega
    clear hK hW eR h hI hE
    go_enter Try.func12, Try.ntmps12
    go_wp2_with fail
    refine CC.out.mono ?_
    rintro x w1 ⟨rfl, rfl⟩
    clear CC
    go_wp2_with fail
    refine HW.out.mono ?_
    rintro e w1 ⟨rfl, rfl⟩
    go_wp2_with fail
    go_ret
    exact ⟨rfl, rfl⟩
  · rw [roomI_no h]
    by_cases h0 : 0 ≤ n ∧ n ≤ 1048576 ∧ 1 ≤ e
    · have h3 : 1 ≤ cntK n e := by unfold cntK; rw [if_pos h0]; exact Nat.le_add_left _ _
      have h2 := cntK_le n e
      generalize cntK n e = K at *
      have z0 : ((K : Int) == 0) = false := by simp; omega
      by_cases hm : m < 0
      · clear h h0 hI hE
        go_enter Try.func12, Try.ntmps12
        go_wp2_with fail
        refine CC.out.mono ?_
        rintro x w1 ⟨rfl, rfl⟩
        clear CC
        go_wp2_with fail
        all_goals (go_ret; exact ⟨rfl, rfl⟩)
      · have hm2 : 1048576 < m := by omega
        clear h h0 hI hE
        go_enter Try.func12, Try.ntmps12
        go_wp2_with fail
        refine CC.out.mono ?_
        rintro x w1 ⟨rfl, rfl⟩
        clear CC
        go_wp2_with fail
        all_goals (go_ret; exact ⟨rfl, rfl⟩)
    · rw [cntK_no h0] at CC
      clear h h0 hI hE
      go_enter Try.func12, Try.ntmps12
      go_wp2_with fail
      refine CC.out.mono ?_
      rintro x w1 ⟨rfl, rfl⟩
      clear CC
      go_wp2_with fail
      all_goals (go_ret; exact ⟨rfl, rfl⟩)

/-! ### The reference -/
end Go.Proofs.Ytncbhnmhaoblaaa
