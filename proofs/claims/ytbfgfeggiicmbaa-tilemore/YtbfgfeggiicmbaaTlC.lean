/-
  Package tile: ends.
-/
import Derived.Test.YtbfgfeggiicmbaaTlB
import Derived.Deep.WholeRow
import Derived.BigQuiet
namespace Go.Proofs.Ytbfgfeggiicmbaa
open Go.RowKit

/-- A whole table in memory. -/
def EnT (S : Nat → Nat → Nat) (t P : Nat) (wr : World) : Prop := ∀ r c, r ≤ t → c ≤ t → wr.cell? ⟨P, r * 4 + c, none⟩ = some (.int .i64 (S r c : Int))
def EnR (S : Nat → Nat → Nat) (f g : Nat → Nat) (t P : Nat) (w : World) (b r i : Value) (wr : World) : Prop :=
  ∃ k : Nat, k ≤ t ∧ i = .int .i64 (k : Int) ∧ b = .int .i64 (num f k : Nat) ∧ r = .int .i64 (num g k : Nat) ∧ EnT S t P wr ∧ Below w.heap.size w wr
theorem or_num {K d k : Nat} (hk : k < 3) (h : K < 2 ^ k) (hd : d ≤ 1) : bits .or .i64 (K : Int) (wrap64 ((d : Int) * 2 ^ k)) = ((K + d * 2 ^ k : Nat) : Int) := by
  have : ∀ k : Nat, k < 3 → ∀ K : Nat, K < 2 ^ k → ∀ d : Nat, d < 2 → bits .or .i64 (K : Int) (wrap64 ((d : Int) * 2 ^ k)) = ((K + d * 2 ^ k : Nat) : Int) := by decide +kernel
  exact this k hk K h d (by omega)
/-- What ends leaves. -/
def EnMade (b r : Nat) (w : World) (e : Ending) (w' : World) : Prop := e = .returned (.tuple #[.int .i64 (b : Int), .int .i64 (r : Int)]) ∧ Below w.heap.size w w'

theorem en_start {S : Nat → Nat → Nat} {t : Nat} {w w1 : World} {cs : Array Value} (h2 : ∀ r c, r ≤ t → c ≤ t → cs[4 * r + c]? = some (.int .i64 (S r c : Int))) (hb : Below w.heap.size w w1) :
    EnT S t w1.heap.size (w1.alloc (.cells cs 68)) ∧ Below w.heap.size w (w1.alloc (.cells cs 68)) := by
  refine ⟨fun r c hr hc => ?_, hb.alloc hb.size _⟩
  rw [cell_of_row _ _ _ cs 68 (0, 0) (heap_alloc_last w1 _), Nat.mul_comm r 4]
  exact h2 r c hr hc
theorem EnT.drewN {S : Nat → Nat → Nat} {t P : Nat} {wr : World} (h : EnT S t P wr) (q : Nat) : EnT S t P (wr.drewN q) := h

set_option maxRecDepth 100000 in
set_option maxHeartbeats 1600000 in
theorem ends_any (t eq top left : Nat) (w : World) (ht : 1 ≤ t ∧ t ≤ 3) :
    Calls Try.prog 24 #[.int .i64 (t : Int), .int .i64 (eq : Int), .int .i64 (top : Int), .int .i64 (left : Int)] w (EnMade (botN t eq top left) (rgtN t eq top left) w) := by
  have HC := Lib.hid (fill_any t eq top left w ht)
  have HH := Lib.hid (sqN_h t eq top left)
  have HV := Lib.hid (sqN_v t eq top left)
  have HL := Lib.hid (sqN_le t eq top left)
  have HF : Hid (∀ c, botF t eq top left c = sqN t eq top left t (c + 1) - sqN t eq top left t c) := fun c => rfl
  have HG : Hid (∀ c, rgtF t eq top left c = sqN t eq top left (c + 1) t - sqN t eq top left c t) := fun c => rfl
  have HF1 := Lib.hid (num_lt (botF_le t eq top left))
  have HG1 := Lib.hid (num_lt (rgtF_le t eq top left))
  unfold botN rgtN
  generalize botF t eq top left = f at *
  generalize rgtF t eq top left = g at *
  generalize sqN t eq top left = S at *
  go_enter Try.func24, Try.ntmps24
  go_upto_region 1 with (fail)
  go_wp2_with (go_at_call 29; refine HC.out.mono ?_; rintro e w1 ⟨cs, rfl, g1, g2, g3, g4⟩; have hst := run_storeCells_new (P := Try.prog) w1 68 (Array.replicate 16 (.int .i64 0)) cs (by rw [g1]; exact Try.sizeTab) (by rw [g1]; rfl) g2; replace hst : (storeCells ⟨w1.heap.size, 0, none⟩ cs.toList 0).run Try.prog (w1.alloc (.cells #[.int .i64 0, .int .i64 0, .int .i64 0, .int .i64 0, .int .i64 0, .int .i64 0, .int .i64 0, .int .i64 0, .int .i64 0, .int .i64 0, .int .i64 0, .int .i64 0, .int .i64 0, .int .i64 0, .int .i64 0, .int .i64 0] 68)) = _ := hst)
  have hE := en_start g3 g4
  clear hst g1 g2 g3 g4 HC
  obtain ⟨hE, hB⟩ := hE
  go_loopw [8, 9, 18] (fun b r i wr => EnR S f g t w1.heap.size w b r i wr) (fun _ _ i _ => t - (intOf i).toNat)
  case atStart => exact ⟨0, Nat.zero_le _, rfl, rfl, rfl, hE, hB⟩
  case round =>
    clear hE hB
    obtain ⟨k, hk, rfl, rfl, rfl, hE, hB⟩ := hrel
    by_cases hlt : k < t
    · have c1 := hE t (k + 1) (Nat.le_refl _) hlt
      have c2 := hE t k (Nat.le_refl _) hk
      have c3 := hE (k + 1) t hlt (Nat.le_refl _)
      have c4 := hE k t hk (Nat.le_refl _)
      have l1 := HH.out t k
      have l2 := HV.out k t
      have l3 := HL.out t (k + 1)
      have l4 := HL.out (k + 1) t
      have n1 := HF1.out k
      have n2 := HG1.out k
      obtain ⟨d1, hd1⟩ : ∃ d, S t (k + 1) - S t k = d := ⟨_, rfl⟩
      obtain ⟨d2, hd2⟩ : ∃ d, S (k + 1) t - S k t = d := ⟨_, rfl⟩
      have E1 : Hid (num f (k + 1) = num f k + d1 * 2 ^ k) := by show _ = _; rw [num, HF.out, hd1]
      have E2 : Hid (num g (k + 1) = num g k + d2 * 2 ^ k) := by show _ = _; rw [num, HG.out, hd2]
      have O1 := Lib.hid (or_num (K := num f k) (d := d1) (k := k) (by omega) n1 (by omega))
      have O2 := Lib.hid (or_num (K := num g k) (d := d2) (k := k) (by omega) n2 (by omega))
      have z1 : (S t (k + 1) : Int) - (S t k : Int) = (d1 : Int) := by omega
      have z2 : (S (k + 1) t : Int) - (S k t : Int) = (d2 : Int) := by omega
      have m1 : d1 ≤ 1 := by omega
      have m2 : d2 ≤ 1 := by omega
      generalize num f k = N1 at *
      generalize num g k = N2 at *
      generalize S t (k + 1) = A at *
      generalize S t k = B at *
      generalize S (k + 1) t = C at *
      generalize S k t = D at *
      clear hd1 hd2 l1 l2 n1 n2
      go_wp2_with fail
      go_region
      go_wp2_with fail
      go_region
      go_wp2_with fail
      go_roundw
      case rel => exact ⟨k + 1, hlt, by go_num, by rw [E1.out]; exact congrArg (Value.int .i64) O1.out, by rw [E2.out]; exact congrArg (Value.int .i64) O2.out, hE, hB.drew.drew⟩
      case measure => simp [intOf]; omega
    · obtain rfl : k = t := by omega
      have HQ : Hid (EnMade (num f k) (num g k) w (.returned (.tuple #[.int .i64 (num f k : Nat), .int .i64 (num g k : Nat)])) wr) := ⟨rfl, hB⟩
      clear hE hB
      go_wp2_with fail
      go_ret2
      exact HQ.out

end Go.Proofs.Ytbfgfeggiicmbaa
