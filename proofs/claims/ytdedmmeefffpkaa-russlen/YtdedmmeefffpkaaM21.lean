/-
  Words and contracts that the proof leans on.
-/
import Derived.Test.YtdedmmeefffpkaaM20
import Derived.Deep.WholeRow
import Derived.BigQuiet
import Derived.Test.YtdedmmeefffpkaaM2
namespace Go.Proofs.Ytdedmmeefffpkaa
open Go.RowKit

/-- A whole table in memory. -/
def EnT (S : Nat → Nat → Nat) (t P : Nat) (wr : World) : Prop := ∀ r c, r ≤ t → c ≤ t → wr.cell? ⟨P, r * 4 + c, none⟩ = some (.int .i64 (S r c : Int))
def EnR (S : Nat → Nat → Nat) (f g : Nat → Nat) (t P : Nat) (w : World) (b r i : Value) (wr : World) : Prop :=
  ∃ k : Nat, k ≤ t ∧ i = .int .i64 (k : Int) ∧ b = .int .i64 (num f k : Nat) ∧ r = .int .i64 (num g k : Nat) ∧ EnT S t P wr ∧ Below w.heap.size w wr
theorem or_num {K d k : Nat} (hk : k < 3) (h : K < 2 ^ k) (hd : d ≤ 1) : bits .or .i64 (K : Int) (wrap64 ((d : Int) * 2 ^ k)) = ((K + d * 2 ^ k : Nat) : Int) := by
  have : ∀ k : Nat, k < 3 → ∀ K : Nat, K < 2 ^ k → ∀ d : Nat, d < 2 → bits .or .i64 (K : Int) (wrap64 ((d : Int) * 2 ^ k)) = ((K + d * 2 ^ k : Nat) : Int) := by decide +kernel
  exact this k hk K h d (by omega)
/-- What ends leaves. -/
def EnMade (b r : Nat) (w : World) (e : Ending) (w' : World) : Prop := e = .returned (.tuple #[.int .i64 (b : Int), .int .i64 (r : Int)]) ∧ Below w.heap.size w w'

theorem en_start {S : Nat → Nat → Nat} {t : Nat} {w w1 : World} {cs : Array Value} (h2 : ∀ r c, r ≤ t → c ≤ t → cs[4 * r + c]? = some (.int .i64 (S r c : Int))) (hb : Below w.heap.size w w1) :
    EnT S t w1.heap.size (w1.alloc (.cells cs 90)) ∧ Below w.heap.size w (w1.alloc (.cells cs 90)) := by
  refine ⟨fun r c hr hc => ?_, hb.alloc hb.size _⟩
  rw [cell_of_row _ _ _ cs 90 (0, 0) (heap_alloc_last w1 _), Nat.mul_comm r 4]
  exact h2 r c hr hc
theorem EnT.drewN {S : Nat → Nat → Nat} {t P : Nat} {wr : World} (h : EnT S t P wr) (q : Nat) : EnT S t P (wr.drewN q) := h

set_option maxRecDepth 100000 in
set_option maxHeartbeats 1600000 in
theorem ends_any (t eq top left : Nat) (w : World) (ht : 1 ≤ t ∧ t ≤ 3) :
    Calls Try.prog 39 #[.int .i64 (t : Int), .int .i64 (eq : Int), .int .i64 (top : Int), .int .i64 (left : Int)] w (EnMade (botN t eq top left) (rgtN t eq top left) w) := by
  have HC := Lib.hid (fill_any t eq top left w ht)
  have HH := Lib.hid (sqN_h t eq top left)
  have HV := Lib.hid (sqN_v t eq top left)
  have HL := Lib.hid (sqN_le t eq top left)
  have HF : Hid (∀ c, botF t eq top left c = sqN t eq top left t (c + 1) - sqN t eq top left t c) := fun c => rfl
  have HG : Hid (∀ c, rgtF t eq top left c = sqN t eq top left (c + 1) t - sqN t eq top left c t) := fun c => rfl
  have HF1 := Lib.hid (num_lt (botF_le t eq top left))
  have HG1 := Lib.hid (num_lt (rgtF_le t eq top left))
  unfold botN rgtN
  generalize botF t eq top left = f at *
  generalize rgtF t eq top left = g at *
  generalize sqN t eq top left = S at *
  go_enter Try.func39, Try.ntmps39
  go_upto_region 1 with (fail)
  go_wp2_with (go_at_call 45; refine HC.out.mono ?_; rintro e w1 ⟨cs, rfl, g1, g2, g3, g4⟩; have hst := run_storeCells_new (P := Try.prog) w1 90 (Array.replicate 16 (.int .i64 0)) cs (by rw [g1]; exact Try.sizeTab) (by rw [g1]; rfl) g2; replace hst : (storeCells ⟨w1.heap.size, 0, none⟩ cs.toList 0).run Try.prog (w1.alloc (.cells #[.int .i64 0, .int .i64 0, .int .i64 0, .int .i64 0, .int .i64 0, .int .i64 0, .int .i64 0, .int .i64 0, .int .i64 0, .int .i64 0, .int .i64 0, .int .i64 0, .int .i64 0, .int .i64 0, .int .i64 0, .int .i64 0] 90)) = _ := hst)
  have hE := en_start g3 g4
  clear hst g1 g2 g3 g4 HC
  obtain ⟨hE, hB⟩ := hE
  go_loopw [8, 9, 18] (fun b r i wr => EnR S f g t w1.heap.size w b r i wr) (fun _ _ i _ => t - (intOf i).toNat)
  case atStart => exact ⟨0, Nat.zero_le _, rfl, rfl, rfl, hE, hB⟩
  case round =>
    clear hE hB
    obtain ⟨k, hk, rfl, rfl, rfl, hE, hB⟩ := hrel
    by_cases hlt : k < t
    · have c1 := hE t (k + 1) (Nat.le_refl _) hlt
      have c2 := hE t k (Nat.le_refl _) hk
      have c3 := hE (k + 1) t hlt (Nat.le_refl _)
      have c4 := hE k t hk (Nat.le_refl _)
      have l1 := HH.out t k
      have l2 := HV.out k t
      have l3 := HL.out t (k + 1)
      have l4 := HL.out (k + 1) t
      have n1 := HF1.out k
      have n2 := HG1.out k
      obtain ⟨d1, hd1⟩ : ∃ d, S t (k + 1) - S t k = d := ⟨_, rfl⟩
      obtain ⟨d2, hd2⟩ : ∃ d, S (k + 1) t - S k t = d := ⟨_, rfl⟩
      have E1 : Hid (num f (k + 1) = num f k + d1 * 2 ^ k) := by show _ = _; rw [num, HF.out, hd1]
      have E2 : Hid (num g (k + 1) = num g k + d2 * 2 ^ k) := by show _ = _; rw [num, HG.out, hd2]
      have O1 := Lib.hid (or_num (K := num f k) (d := d1) (k := k) (by omega) n1 (by omega))
      have O2 := Lib.hid (or_num (K := num g k) (d := d2) (k := k) (by omega) n2 (by omega))
      have z1 : (S t (k + 1) : Int) - (S t k : Int) = (d1 : Int) := by omega
      have z2 : (S (k + 1) t : Int) - (S k t : Int) = (d2 : Int) := by omega
      have m1 : d1 ≤ 1 := by omega
      have m2 : d2 ≤ 1 := by omega
      generalize num f k = N1 at *
      generalize num g k = N2 at *
      generalize S t (k + 1) = A at *
      generalize S t k = B at *
      generalize S (k + 1) t = C at *
      generalize S k t = D at *
      clear hd1 hd2 l1 l2 n1 n2
      go_wp2_with fail
      go_region
      go_wp2_with fail
      go_region
      go_wp2_with fail
      go_roundw
      case rel => exact ⟨k + 1, hlt, by go_num, by rw [E1.out]; exact congrArg (Value.int .i64) O1.out, by rw [E2.out]; exact congrArg (Value.int .i64) O2.out, hE, hB.drew.drew⟩
      case measure => simp [intOf]; omega
    · obtain rfl : k = t := by omega
      have HQ : Hid (EnMade (num f k) (num g k) w (.returned (.tuple #[.int .i64 (num f k : Nat), .int .i64 (num g k : Nat)])) wr) := ⟨rfl, hB⟩
      clear hE hB
      go_wp2_with fail
      go_ret2
      exact HQ.out

end Go.Proofs.Ytdedmmeefffpkaa

namespace Go.Proofs.Ytdedmmeefffpkaa
open Go.RowKit

def cv5 (x y z u v : Value) : Nat → Value
  | 0 => x
  | 1 => y
  | 2 => z
  | 3 => u
  | _ => v
/-- The object in block b: its side, whether it is done, its lock, its squares. -/
def TilO (t b : Nat) (d m : Int) (v : Value) (w : World) : Prop := w.rowIs b 66 5 (cv5 (.int .i64 (t : Int)) (.int .u32 d) (.int .i32 m) (.int .u32 0) v)
section
variable {t b : Nat} {d m : Int} {v : Value} {w w' : World}
theorem TilO.c0 (h : TilO t b d m v w) : w.cell? ⟨b, 0, none⟩ = some (.int .i64 (t : Int)) := World.rowIs.cell h (by omega)
theorem TilO.c1 (h : TilO t b d m v w) : w.cell? ⟨b, 1, none⟩ = some (.int .u32 d) := World.rowIs.cell h (by omega)
theorem TilO.c2 (h : TilO t b d m v w) : w.cell? ⟨b, 2, none⟩ = some (.int .i32 m) := World.rowIs.cell h (by omega)
theorem TilO.c4 (h : TilO t b d m v w) : w.cell? ⟨b, 4, none⟩ = some v := World.rowIs.cell h (by omega)
theorem TilO.frozen (h : TilO t b d m v w) (i : Nat) : w.frozen? ⟨b, i, none⟩ = false := World.rowIs.frozen h i
theorem TilO.lt (h : TilO t b d m v w) : b < w.heap.size := World.rowIs.lt h
theorem cv5_cases {P : Nat → Prop} (h0 : P 0) (h1 : P 1) (h2 : P 2) (h3 : P 3) (h4 : P 4) (i : Nat) (hi : i < 5) : P i := by
  have : i = 0 ∨ i = 1 ∨ i = 2 ∨ i = 3 ∨ i = 4 := by omega
  rcases this with rfl | rfl | rfl | rfl | rfl <;> assumption
theorem TilO.set1 (h : TilO t b d m v w) (x : Int) : TilO t b x m v (w.setCell ⟨b, 1, none⟩ (.int .u32 x)) :=
  World.rowIs.congr (World.rowIs.set h 1 _) (cv5_cases rfl rfl rfl rfl rfl)
theorem TilO.set2 (h : TilO t b d m v w) (x : Int) : TilO t b d x v (w.setCell ⟨b, 2, none⟩ (.int .i32 x)) :=
  World.rowIs.congr (World.rowIs.set h 2 _) (cv5_cases rfl rfl rfl rfl rfl)
theorem TilO.set4 (h : TilO t b d m v w) (x : Value) : TilO t b d m x (w.setCell ⟨b, 4, none⟩ x) :=
  World.rowIs.congr (World.rowIs.set h 4 _) (cv5_cases rfl rfl rfl rfl rfl)
theorem TilO.grown {r : Option Nat} (h : TilO t b d m v w) (hg : w.grownBy w' r) (hne : some b ≠ r) : TilO t b d m v w' := rowIs_grown h hg hne
theorem TilO.below (h : TilO t b d m v w) (hb : Below w.heap.size w w') : TilO t b d m v w' := h.grown (below_grown hb none) (by simp)
theorem TilO.drewN (h : TilO t b d m v w) (q : Nat) : TilO t b d m v (w.drewN q) := h
end

/-- What is kept of a square. -/
def blkN (t k : Nat) : Nat := botN t (k / 2 ^ t / 2 ^ t) (k / 2 ^ t % 2 ^ t) (k % 2 ^ t) * 2 ^ t + rgtN t (k / 2 ^ t / 2 ^ t) (k / 2 ^ t % 2 ^ t) (k % 2 ^ t)
/-- The first K squares are worked out. -/
def BlR (t g K : Nat) (w : World) : Prop := w.rowIs g 5 (sizN t) (fun k => .int .u8 ((if k < K then blkN t k else 0 : Nat) : Int))
def CpS (t b : Nat) (d m : Int) (g k : Nat) (w wr : World) : Prop := TilO t b d m (.slice (some ⟨g, 0, none⟩) (sizN t) (sizN t)) wr ∧ BlR t g k wr ∧ w.grownBy wr (some b)
section
variable {t b : Nat} {d m : Int} {g k : Nat} {w wr wr' : World}
theorem grown_drewN {r : Option Nat} (h : w.grownBy wr r) (q : Nat) : w.grownBy (wr.drewN q) r := ⟨h.os, h.tape, h.output, h.size, h.block⟩
theorem CpS.drewN (h : CpS t b d m g k w wr) (q : Nat) : CpS t b d m g k w (wr.drewN q) := ⟨h.1, h.2.1, grown_drewN h.2.2 q⟩
theorem CpS.drew (h : CpS t b d m g k w wr) : CpS t b d m g k w wr.drew := ⟨h.1, h.2.1, grown_drew h.2.2⟩
theorem CpS.below (h : CpS t b d m g k w wr) (hb : Below wr.heap.size wr wr') : CpS t b d m g k w wr' :=
  ⟨h.1.below hb, rowIs_grown h.2.1 (below_grown hb none) (by simp), grown_more h.2.2 (below_grown hb none) (fun r e => by cases e)⟩
theorem CpS.put (h : CpS t b d m g k w wr) (hne : b ≠ g) (hg : w.heap.size ≤ g) {v : Int} (hv : v = (blkN t k : Nat)) : CpS t b d m g (k + 1) w (wr.setCell ⟨g, k, none⟩ (.int .u8 v)) := by
  subst hv
  refine ⟨World.rowIs.setOther h.1 hne _, World.rowIs.congr (World.rowIs.set h.2.1 k _) fun i _ => ?_, grown_setS h.2.2 (.inr hg)⟩
  by_cases e : i = k
  · subst e
    rw [if_pos rfl, if_pos (by omega)]
  · rw [if_neg e]
    by_cases e' : i < k
    · rw [if_pos e', if_pos (by omega)]
    · rw [if_neg e', if_neg (by omega)]
theorem cp_start {v0 : Value} (h : TilO t b d m v0 wr) (hg : w.grownBy wr (some b)) (hs : wr.heap.size = w.heap.size) : CpS t b d m w.heap.size 0 w ((wr.setCell ⟨b, 4, none⟩ (.slice (some ⟨w.heap.size, 0, none⟩) (sizN t) (sizN t))).alloc (.cells (madeCells #[.int .u8 0] (sizN t)) 5)) := by
  refine ⟨World.rowIs.alloc (TilO.set4 h _) _, ?_, grown_alloc (grown_set hg _ _) _⟩
  have := World.rowIs_made (wr.setCell ⟨b, 4, none⟩ (.slice (some ⟨w.heap.size, 0, none⟩) (sizN t) (sizN t))) (.int .u8 0) (sizN t) 5
  rw [show (wr.setCell ⟨b, 4, none⟩ (.slice (some ⟨w.heap.size, 0, none⟩) (sizN t) (sizN t))).heap.size = w.heap.size by simpa using hs] at this
  refine World.rowIs.congr this fun i _ => ?_
  rw [if_neg (by omega)]
  rfl
end
theorem or_byte {t x y : Nat} (ht : t ≤ 3) (hx : x < 2 ^ t) (hy : y < 2 ^ t) : bits .or .i64 (wrap64 ((x : Int) * 2 ^ t)) (y : Int) % 256 = ((x * 2 ^ t + y : Nat) : Int) := by
  have : ∀ t : Nat, t < 4 → ∀ x : Nat, x < 2 ^ t → ∀ y : Nat, y < 2 ^ t → bits .or .i64 (wrap64 ((x : Int) * 2 ^ t)) (y : Int) % 256 = ((x * 2 ^ t + y : Nat) : Int) := by decide +kernel
  exact this t (by omega) x hx y hy

/-- What compute leaves. -/
def CpMade (t b : Nat) (d m : Int) (w : World) (e : Ending) (w' : World) : Prop := e = .returned (.tuple #[]) ∧ CpS t b d m w.heap.size (sizN t) w w'

set_option maxRecDepth 100000 in
set_option maxHeartbeats 1600000 in
theorem compute_any (t b : Nat) (d m : Int) (v0 : Value) (w : World) (ht : 1 ≤ t ∧ t ≤ 3) (hO : TilO t b d m v0 w) :
    Calls Try.prog 32 #[.pointer (some ⟨b, 0, none⟩)] w (CpMade t b d m w) := by
  obtain ⟨i0, hi, hz0, hz1, hz2⟩ := info_parts Try.infoU8
  have hl := hO.lt
  have hN := sizN_le ht.2
  have k0 := hO.c0
  go_enter Try.func32, Try.ntmps32
  go_wp2_with fail
  refine (size_any b t w ht k0).mono ?_
  rintro e w0 ⟨rfl, q, rfl⟩
  have hO1 := hO.drewN q
  have hG1 : w.grownBy (w.drewN q) (some b) := grown_drewN (World.grownBy.refl _ _) q
  have hsz : (w.drewN q).heap.size = w.heap.size := rfl
  clear hO k0
  generalize w.drewN q = wa at *
  have a4 : ∀ o, (wa.alloc o).cell? ⟨b, 4, none⟩ = some v0 := fun o => TilO.c4 (World.rowIs.alloc hO1 o)
  have z4 : ∀ o, (wa.alloc o).frozen? ⟨b, 4, none⟩ = false := fun o => TilO.frozen (World.rowIs.alloc hO1 o) 4
  have HS := Lib.hid (cp_start hO1 hG1 hsz)
  clear hO1 hG1
  obtain ⟨N, hNN⟩ : ∃ N, sizN t = N := ⟨_, rfl⟩
  rw [hNN] at hN HS ⊢
  go_upto_region 2 with (at_make; refine wpList_make_row _ rfl _ _ 43 rfl 5 i0 (.int .u8 0) Try.underlying43 hi hz0 hz1 rfl .i64 .i64 N rfl rfl (by rw [hz2]; omega) (by omega) ?_)
  have hS := HS.out
  clear HS a4 z4 hsz
  generalize World.alloc _ _ = wy at *
  have b4 := hS.1.c4
  rw [hNN] at b4
  go_wp2_with fail
  clear b4
  go_loopw [25] (fun i wr => ∃ k : Nat, k ≤ N ∧ i = .int .i64 (k : Int) ∧ CpS t b d m w.heap.size k w wr) (fun i _ => N - (intOf i).toNat)
  case atStart => exact ⟨0, Nat.zero_le _, rfl, hS⟩
  case round =>
    clear hS
    obtain ⟨k, hk, rfl, hS⟩ := hrel
    by_cases hlt : k < N
    · go_wp2_with fail
      refine (split_any k t wr (by omega) ht).mono ?_
      rintro e w1 ⟨rfl, q1, rfl⟩
      replace hS := hS.drewN q1
      generalize wr.drewN q1 = wb at *
      have hk2 : k / 2 ^ t ≤ k := Nat.div_le_self _ _
      have HW : Hid (blkN t k = botN t (k / 2 ^ t / 2 ^ t) (k / 2 ^ t % 2 ^ t) (k % 2 ^ t) * 2 ^ t + rgtN t (k / 2 ^ t / 2 ^ t) (k / 2 ^ t % 2 ^ t) (k % 2 ^ t)) := rfl
      generalize k % 2 ^ t = le at *
      generalize k / 2 ^ t = re at *
      go_wp2_with fail
      refine (split_any re t wb (by omega) ht).mono ?_
      rintro e w1 ⟨rfl, q2, rfl⟩
      replace hS := hS.drewN q2
      generalize wb.drewN q2 = wc at *
      generalize re % 2 ^ t = tp at *
      generalize re / 2 ^ t = eq at *
      go_wp2_with fail
      refine (ends_any t eq tp le wc ht).mono ?_
      rintro e w1 ⟨rfl, hb⟩
      replace hS := hS.below hb
      clear hb
      have HY := Lib.hid (or_byte ht.2 (botN_lt t eq tp le) (rgtN_lt t eq tp le))
      generalize botN t eq tp le = bo at *
      generalize rgtN t eq tp le = ri at *
      have b4 := hS.1.c4
      rw [hNN] at b4
      have p1 : w1.cell? ⟨w.heap.size, k, none⟩ = some _ := World.rowIs.cell hS.2.1 (by rw [hNN]; exact hlt)
      have p2 : w1.frozen? ⟨w.heap.size, k, none⟩ = false := World.rowIs.frozen hS.2.1 k
      have R := Lib.hid (fun v hv => (CpS.put (v := v) hS (by omega) (Nat.le_refl _) hv).drew)
      rw [HW.out] at R
      clear hS HW
      go_wp2_with fail
      go_region
      go_wp2_with fail
      go_roundw
      case rel => exact ⟨k + 1, hlt, by go_num, R.out _ HY.out⟩
      case measure => simp [intOf]; omega
    · obtain rfl : k = N := by omega
      have HQ : Hid (CpMade t b d m w (.returned (.tuple #[])) wr) := ⟨rfl, by rw [hNN]; exact hS⟩
      clear hS
      go_wp2_with fail
      go_end0
      exact HQ.out

end Go.Proofs.Ytdedmmeefffpkaa
