/-
  Words and contracts that the proof leans on.
-/
import Derived.Test.YtdedmmeefffpkaaM21
import Derived.Tactics2
import Derived.Defers
import Derived.Laws.Pointers
import Derived.Laws.LoneSync
import Derived.RegionTactic
import Derived.RegionCalls
import Derived.ChangeAlike
import Derived.Laws.NewBlocks
import Derived.Test.YtdedmmeefffpkaaM3
namespace Go.Proofs.Ytdedmmeefffpkaa
open Go.RowKit

theorem disable (w : World) : (callFunc 50 #[]).run Try.prog w = .ok (.value (.tuple #[])) w := run_call_mark0 Try.func50 (by kernel_rfl) (by kernel_rfl) (by kernel_rfl) .disable (by kernel_rfl) w
theorem enable (w : World) : (callFunc 52 #[]).run Try.prog w = .ok (.value (.tuple #[])) w := run_call_mark0 Try.func52 (by kernel_rfl) (by kernel_rfl) (by kernel_rfl) .enable (by kernel_rfl) w
theorem acquire (a : Addr) (w : World) : (callFunc 53 #[.pointer (some a)]).run Try.prog w = .ok (.value (.tuple #[])) w := run_call_marked Try.func53 (by kernel_rfl) (by kernel_rfl) (by kernel_rfl) .acquire (by kernel_rfl) a w
theorem releaseMerge (a : Addr) (w : World) : (callFunc 55 #[.pointer (some a)]).run Try.prog w = .ok (.value (.tuple #[])) w := run_call_marked Try.func55 (by kernel_rfl) (by kernel_rfl) (by kernel_rfl) .releaseMerge (by kernel_rfl) a w

theorem store_deferred (a : Addr) (x : Value) (u : FrameMode) (w : World) (hc : w.cell? a = some x) (hz : w.frozen? a = false) :
    CallsD Try.prog 44 #[.pointer (some a), .bool true] u w fun e u' w' => u' = u ∧ (e = .returned (.tuple #[]) ∧ w' = w.drew.setCell a (.int .u32 1)) := by
  have hc' : w.drew.cell? a = some x := by go_simp
  have hz' : w.drew.frozen? a = false := by go_simp
  have hst := run_call_store (P := Try.prog) Try.func48 (by kernel_rfl) (by kernel_rfl) (by kernel_rfl) (by kernel_rfl) (k := .u32) (y := 1) hc' hz'
  go_enter_d Try.func44, Try.ntmps44
  go_wp2
  go_region_calls
  all_goals (go_end0; exact ⟨rfl, rfl⟩)

set_option maxRecDepth 100000 in
theorem unlock_deferred (a : Addr) (u : FrameMode) (w : World) (hc : w.cell? a = some (.int .i32 1)) (hz : w.frozen? a = false) :
    CallsD Try.prog 43 #[.pointer (some a)] u w fun e u' w' => u' = u ∧ (e = .returned (.tuple #[]) ∧ w' = w.setCell a (.int .i32 0)) := by
  have hd := disable
  have he := enable
  have hr := releaseMerge
  have hadd := run_call_add (P := Try.prog) Try.func56 (by kernel_rfl) (by kernel_rfl) (by kernel_rfl) .i32 (by kernel_rfl) (y := -1) (s := 0) hc hz (by simp [go_sem]; rfl)
  have hcv := run_convert_to_unsafe (P := Try.prog) (src := 95) (dst := 99) Try.underlying95 Try.underlying99 (by kernel_rfl) hc
  go_enter_d Try.func43, Try.ntmps43
  go_wp2
  go_end0
  go_wp2
  go_end0
  exact ⟨rfl, rfl⟩

set_option maxRecDepth 100000 in
theorem lock_free (a : Addr) (w : World) (hc : w.cell? a = some (.int .i32 0)) (hz : w.frozen? a = false) :
    Calls Try.prog 42 #[.pointer (some a)] w fun e w' => e = .returned (.tuple #[]) ∧ w' = w.setCell a (.int .i32 1) := by
  have hd := disable
  have he := enable
  have ha := acquire
  have hcas := run_call_cas_hit (P := Try.prog) Try.func51 (by kernel_rfl) (by kernel_rfl) (by kernel_rfl) .i32 (by kernel_rfl) (y := 1) hc hz
  have hc' : (w.setCell a (.int .i32 1)).cell? a = some (.int .i32 1) := World.cell?_setCell_same w a _ hc
  have hcv := run_convert_to_unsafe (P := Try.prog) (src := 95) (dst := 99) Try.underlying95 Try.underlying99 (by kernel_rfl) hc'
  go_enter Try.func42, Try.ntmps42
  go_wp2
  first | go_end0 | (simp only [Exit.inBlock, Exit.then]; refine bodyPost_ret (results_none rfl _ _ _) rfl ?_) | refine bodyPost_ret (results_none rfl _ _ _) rfl ?_
  go_wp2
  go_end0
  exact ⟨rfl, rfl⟩

/-- The object, its squares worked out; these stand in none of told blocks. -/
def TilE (X : Nat → Prop) (t b : Nat) (w : World) : Prop := ∃ g, TilO t b 1 0 (.slice (some ⟨g, 0, none⟩) (sizN t) (sizN t)) w ∧ BlR t g (sizN t) w ∧ g ≠ b ∧ ¬ X g
/-- The object. -/
def TilX (X : Nat → Prop) (t b : Nat) (w : World) : Prop := (∃ v0, TilO t b 0 0 v0 w) ∨ TilE X t b w
abbrev TilD (t b : Nat) (w : World) : Prop := TilE (fun _ => False) t b w
abbrev Til (t b : Nat) (w : World) : Prop := TilX (fun _ => False) t b w
def OnMade (X : Nat → Prop) (t b : Nat) (w : World) (e : Ending) (w' : World) : Prop := e = .returned (.tuple #[]) ∧ TilE X t b w' ∧ w.grownBy w' (some b)
theorem on_done {X : Nat → Prop} {t b : Nat} {w0 w w' : World} (hX : ∀ g, X g → g < w.heap.size) (hg : w0.grownBy w (some b)) (hs : w.heap.size = w0.heap.size) (hb : b < w0.heap.size) (h : CpS t b 0 1 w.heap.size (sizN t) w w') : TilE X t b ((w'.drew.setCell ⟨b, 1, none⟩ (.int .u32 1)).setCell ⟨b, 2, none⟩ (.int .i32 0)) ∧ w0.grownBy ((w'.drew.setCell ⟨b, 1, none⟩ (.int .u32 1)).setCell ⟨b, 2, none⟩ (.int .i32 0)) (some b) := by
  obtain ⟨h1, h2, h3⟩ := h
  have hne : w.heap.size ≠ b := by omega
  have h4 : BlR t w.heap.size (sizN t) w'.drew := h2
  have h5 : TilO t b 0 1 (.slice (some ⟨w.heap.size, 0, none⟩) (sizN t) (sizN t)) w'.drew := h1
  exact ⟨⟨w.heap.size, (h5.set1 1).set2 0, World.rowIs.setOther (World.rowIs.setOther h4 hne _) hne _, hne, fun h => absurd (hX _ h) (Nat.lt_irrefl _)⟩, grown_set (grown_set (grown_drew (grown_more hg h3 (fun r e => .inr e))) _ _) _ _⟩

set_option maxRecDepth 100000 in
set_option maxHeartbeats 1600000 in
theorem slow_any (X : Nat → Prop) (t b : Nat) (v0 : Value) (w : World) (ht : 1 ≤ t ∧ t ≤ 3) (hX : ∀ g, X g → g < w.heap.size) (hO : TilO t b 0 0 v0 w) :
    Calls Try.prog 37 #[.pointer (some ⟨b, 1, none⟩), .func (.func 32) #[.pointer (some ⟨b, 0, none⟩)] #[]] w (OnMade X t b w) := by
  have hlt := hO.lt
  have h2 := hO.c2
  have f2 := hO.frozen 2
  have hO1 := hO.set2 1
  have hl := run_call_load (P := Try.prog) Try.func41 (by kernel_rfl) (by kernel_rfl) (by kernel_rfl) .u32 (by kernel_rfl) (w := w.setCell ⟨b, 2, none⟩ (.int .i32 1)) (a := ⟨b, 1, none⟩) (x := 0) hO1.c1
  have hnot : ∀ (x : Bool) (w : World), (Op.unary .not (.bool x)).run Try.prog w = .ok (.bool (!x)) w := fun _ _ => rfl
  have HC := Lib.hid (compute_any t b 0 1 v0 _ ht hO1)
  have HD := Lib.hid (fun w' => on_done (X := X) (t := t) (w' := w') (by simpa using hX) (grown_set (World.grownBy.refl w (some b)) 2 (.int .i32 1)) (by simp) hlt)
  clear hO hO1 hX
  go_enter_defers Try.func37, Try.ntmps37
  go_wp2_with (first | (go_at_call 42; refine (lock_free ⟨b, 2, none⟩ _ h2 f2).mono ?_; rintro e w' ⟨rfl, rfl⟩) | (go_at_call 32; refine HC.out.mono ?_; rintro e w2 ⟨rfl, hS⟩) | (go_at_call 36; go_in))
  refine leaves_cons (f := 44) (args := #[.pointer (some ⟨b, 1, none⟩), .bool true]) (by simp) (by simp [go_sem]) ?_
  refine (store_deferred ⟨b, 1, none⟩ (.int .u32 0) .returning _ hS.1.c1 (hS.1.frozen 1)).mono ?_
  rintro e u' w'' ⟨rfl, rfl, rfl⟩
  have hS2 : TilO t b 1 1 _ (w2.drew.setCell ⟨b, 1, none⟩ (.int .u32 1)) := TilO.set1 (w := w2.drew) hS.1 1
  refine leaves_cons (f := 43) (args := #[.pointer (some ⟨b, 2, none⟩)]) (by simp [settle]) (by simp [go_sem]) ?_
  refine (unlock_deferred ⟨b, 2, none⟩ _ _ hS2.c2 (hS2.frozen 2)).mono ?_
  rintro e u' w'' ⟨rfl, rfl, rfl⟩
  have HQ := HD.out w2 hS
  have HR : OnMade X t b w (.returned (.tuple #[])) _ := ⟨rfl, HQ.1, HQ.2⟩
  simpa [Leaves, settle, results, Try.results37] using HR

set_option maxRecDepth 100000 in
set_option maxHeartbeats 1600000 in
theorem do_any (X : Nat → Prop) (t b : Nat) (w : World) (ht : 1 ≤ t ∧ t ≤ 3) (hX : ∀ g, X g → g < w.heap.size) (h : TilX X t b w) :
    Calls Try.prog 31 #[.pointer (some ⟨b, 1, none⟩), .func (.func 32) #[.pointer (some ⟨b, 0, none⟩)] #[]] w (OnMade X t b w) := by
  have hnot : ∀ (x : Bool) (w : World), (Op.unary .not (.bool x)).run Try.prog w = .ok (.bool (!x)) w := fun _ _ => rfl
  rcases h with ⟨v0, hO⟩ | hD
  · have hl := run_call_load (P := Try.prog) Try.func41 (by kernel_rfl) (by kernel_rfl) (by kernel_rfl) .u32 (by kernel_rfl) hO.c1
    have HS := Lib.hid (slow_any X t b v0 w ht hX hO)
    clear hO hX
    go_enter Try.func31, Try.ntmps31
    go_wp2_with (first | (go_at_call 37; refine HS.out.mono ?_; rintro e w' ⟨rfl, h1, h2⟩) | (go_at_call 36; go_in))
    go_end0
    exact ⟨rfl, h1, h2⟩
  · have HQ : Hid (OnMade X t b w (.returned (.tuple #[])) w) := ⟨rfl, hD, World.grownBy.refl _ _⟩
    obtain ⟨g, hO, _, _, _⟩ := hD
    have hl := run_call_load (P := Try.prog) Try.func41 (by kernel_rfl) (by kernel_rfl) (by kernel_rfl) .u32 (by kernel_rfl) hO.c1
    clear hO hX
    go_enter Try.func31, Try.ntmps31
    go_wp2
    go_end0
    exact HQ.out

end Go.Proofs.Ytdedmmeefffpkaa

namespace Go.Proofs.Ytdedmmeefffpkaa
open Go.RowKit

/-- There is such a square. -/
def inSq (t : Nat) (eq top left : Int) : Prop := (0 ≤ eq ∧ eq < ((2 ^ (t * t) : Nat) : Int)) ∧ (0 ≤ top ∧ top < ((2 ^ t : Nat) : Int)) ∧ (0 ≤ left ∧ left < ((2 ^ t : Nat) : Int))
instance (t : Nat) (eq top left : Int) : Decidable (inSq t eq top left) := by unfold inSq; infer_instance
def three (a b e : Int) : Value := .tuple #[.int .i64 a, .int .i64 b, .int .i64 e]
/-- What Look tells. -/
def lookV (t : Nat) (eq top left : Int) : Value := if inSq t eq top left then three (botN t eq.toNat top.toNat left.toNat : Nat) (rgtN t eq.toNat top.toNat left.toNat : Nat) 0 else three 0 0 1
def LkMade (X : Nat → Prop) (t b : Nat) (eq top left : Int) (w : World) (e : Ending) (w' : World) : Prop := e = .returned (lookV t eq top left) ∧ TilE X t b w' ∧ w.grownBy w' (some b)
theorem lookV_no {t : Nat} {eq top left : Int} (h : ¬ inSq t eq top left) : lookV t eq top left = .tuple #[.int .i64 0, .int .i64 0, .int .i64 1] := by unfold lookV; rw [if_neg h]; rfl
theorem lookV_yes {t e p l : Nat} (h : inSq t e p l) : lookV t e p l = .tuple #[.int .i64 (botN t e p l : Nat), .int .i64 (rgtN t e p l : Nat), .int .i64 0] := by unfold lookV; rw [if_pos h]; rfl
theorem sq_side {t : Nat} (ht : t ≤ 3) : t * t ≤ 9 := Nat.mul_le_mul ht ht
/-- Where a square lies. -/
theorem blk_at {t e p l : Nat} (hp : p < 2 ^ t) (hl : l < 2 ^ t) : blkN t ((e * 2 ^ t + p) * 2 ^ t + l) = botN t e p l * 2 ^ t + rgtN t e p l := by
  have hpos := Nat.two_pow_pos t
  have e1 : ((e * 2 ^ t + p) * 2 ^ t + l) / 2 ^ t = e * 2 ^ t + p := by
    rw [Nat.add_comm, Nat.add_mul_div_right _ _ hpos, Nat.div_eq_of_lt hl, Nat.zero_add]
  have e2 : ((e * 2 ^ t + p) * 2 ^ t + l) % 2 ^ t = l := by
    rw [Nat.add_comm, Nat.add_mul_mod_self_right, Nat.mod_eq_of_lt hl]
  have e3 : (e * 2 ^ t + p) / 2 ^ t = e := by
    rw [Nat.add_comm, Nat.add_mul_div_right _ _ hpos, Nat.div_eq_of_lt hp, Nat.zero_add]
  have e4 : (e * 2 ^ t + p) % 2 ^ t = p := by
    rw [Nat.add_comm, Nat.add_mul_mod_self_right, Nat.mod_eq_of_lt hp]
  unfold blkN
  rw [e1, e2, e3, e4]
theorem blk_lt {t e p l : Nat} (he : e < 2 ^ (t * t)) (hp : p < 2 ^ t) (hl : l < 2 ^ t) : (e * 2 ^ t + p) * 2 ^ t + l < sizN t := by
  unfold sizN
  have h1 : e * 2 ^ t + p < 2 ^ (t * t) * 2 ^ t := by
    have := Nat.mul_le_mul_right (2 ^ t) (show e + 1 ≤ 2 ^ (t * t) from he)
    rw [Nat.add_mul] at this
    omega
  have h2 := Nat.mul_le_mul_right (2 ^ t) (show (e * 2 ^ t + p) + 1 ≤ _ from h1)
  rw [Nat.add_mul] at h2
  rw [show t * t + 2 * t = t * t + t + t by omega, Nat.pow_add, Nat.pow_add]
  omega
theorem blk_split {t x y : Nat} (hy : y < 2 ^ t) : (x * 2 ^ t + y) / 2 ^ t = x ∧ (x * 2 ^ t + y) % 2 ^ t = y := by
  have hpos := Nat.two_pow_pos t
  exact ⟨by rw [Nat.add_comm, Nat.add_mul_div_right _ _ hpos, Nat.div_eq_of_lt hy, Nat.zero_add], by rw [Nat.add_comm, Nat.add_mul_mod_self_right, Nat.mod_eq_of_lt hy]⟩
theorem split_quiet (k t : Nat) (w : World) (q : Nat) (hk : k < 2 ^ 30) (ht : 1 ≤ t ∧ t ≤ 3) :
    Calls Try.prog 34 #[.int .i64 (k : Int), .int .i64 (t : Int)] (w.drewN q) fun e w' => e = .returned (.tuple #[.int .i64 ((k / 2 ^ t : Nat) : Int), .int .i64 ((k % 2 ^ t : Nat) : Int)]) ∧ ∃ k, w' = w.drewN k :=
  (split_any k t (w.drewN q) hk ht).mono fun _ _ h => by
    obtain ⟨h1, k', rfl⟩ := h
    exact ⟨h1, q + k', by rw [World.drewN_drewN]⟩

set_option maxRecDepth 100000 in
set_option maxHeartbeats 1600000 in
theorem look_any (X : Nat → Prop) (t b : Nat) (eq top left : Int) (w : World) (ht : 1 ≤ t ∧ t ≤ 3) (hXw : ∀ g, X g → g < w.heap.size) (h : TilX X t b w) :
    Calls Try.prog 25 #[.pointer (some ⟨b, 0, none⟩), .int .i64 eq, .int .i64 top, .int .i64 left] w (LkMade X t b eq top left w) := by
  have HD := Lib.hid (do_any X t b w ht hXw h)
  clear h hXw
  have hmf : ∀ (fn : Fn) (first cap : Array Value) (w : World), (Instr.makeFunc fn first cap).run Try.prog w = .ok (.func fn first cap) w := fun _ _ _ _ => rfl
  obtain ⟨Y, hX⟩ : ∃ Y, t * t = Y := ⟨_, rfl⟩
  have eX : (t : Int) * (t : Int) = (Y : Int) := by rw [← hX]; simp
  have hX9 : Y ≤ 9 := by rw [← hX]; exact sq_side ht.2
  go_enter Try.func25, Try.ntmps25
  go_upto_region 2 with (go_at_call 31; refine HD.out.mono ?_; rintro e w1 ⟨rfl, hT, hG⟩)
  obtain ⟨g, hO, hBl, hne, hnX⟩ := hT
  have k0 := hO.c0
  have HQ : Hid (¬ inSq t eq top left → LkMade X t b eq top left w (.returned (.tuple #[.int .i64 0, .int .i64 0, .int .i64 1])) w1) := fun h => ⟨by rw [lookV_no h], ⟨g, hO, hBl, hne, hnX⟩, hG⟩
  by_cases h1 : 0 ≤ eq ∧ eq < ((2 ^ Y : Nat) : Int)
  · have F1 := Lib.hid (fits_any eq Y w1 hX9)
    rw [decide_eq_true h1] at F1
    by_cases h2 : 0 ≤ top ∧ top < ((2 ^ t : Nat) : Int)
    · have F2 := Lib.hid (fits_any top t w1 (by omega))
      rw [decide_eq_true h2] at F2
      by_cases h3 : 0 ≤ left ∧ left < ((2 ^ t : Nat) : Int)
      · have F3 := Lib.hid (fits_any left t w1 (by omega))
        rw [decide_eq_true h3] at F3
        obtain ⟨E, rfl⟩ := Int.eq_ofNat_of_zero_le h1.1
        obtain ⟨T, rfl⟩ := Int.eq_ofNat_of_zero_le h2.1
        obtain ⟨L, rfl⟩ := Int.eq_ofNat_of_zero_le h3.1
        have l1 : E < 2 ^ Y := by omega
        have l2 : T < 2 ^ t := by omega
        have l3 : L < 2 ^ t := by omega
        have HL : Hid (lookV t (E : Int) (T : Int) (L : Int) = .tuple #[.int .i64 (botN t E T L : Nat), .int .i64 (rgtN t E T L : Nat), .int .i64 0]) := lookV_yes ⟨by rw [hX]; exact h1, h2, h3⟩
        have HK := blk_lt (t := t) (by rw [hX]; exact l1) l2 l3
        have p1 : w1.cell? ⟨g, (E * 2 ^ t + T) * 2 ^ t + L, none⟩ = some (.int .u8 (blkN t ((E * 2 ^ t + T) * 2 ^ t + L) : Nat)) := by
          rw [World.rowIs.cell hBl HK, if_pos HK]
        rw [blk_at l2 l3] at p1
        obtain ⟨hV1, hV2⟩ := blk_split (t := t) (x := botN t E T L) (rgtN_lt t E T L)
        have n1 := botN_lt t E T L
        have n2 := rgtN_lt t E T L
        have b4 := hO.c4
        have hN := sizN_le ht.2
        have HR : Hid (∀ q, LkMade X t b (E : Int) (T : Int) (L : Int) w (.returned (.tuple #[.int .i64 (botN t E T L : Nat), .int .i64 (rgtN t E T L : Nat), .int .i64 0])) (w1.drewN q)) := fun q => ⟨by rw [HL.out], ⟨g, hO, hBl, hne, hnX⟩, grown_drewN hG q⟩
        have h8 : 2 ^ t ≤ 8 := Nat.pow_le_pow_right (n := 2) (by decide) ht.2
        have hE9 : E < 512 := Nat.lt_of_lt_of_le l1 (Nat.pow_le_pow_right (n := 2) (by decide) hX9)
        generalize botN t E T L = bo at *
        generalize rgtN t E T L = ri at *
        obtain ⟨V, hV⟩ : ∃ V, bo * 2 ^ t + ri = V := ⟨_, rfl⟩
        have hV6 : V < 64 := by
          have := Nat.mul_le_mul_right (2 ^ t) (show bo ≤ 7 by omega)
          omega
        rw [hV] at p1 hV1 hV2
        have HSp : Hid (∀ q, Calls Try.prog 34 #[.int .i64 (V : Int), .int .i64 (t : Int)] (w1.drewN q) fun e w' => e = .returned (.tuple #[.int .i64 (bo : Int), .int .i64 (ri : Int)]) ∧ ∃ k, w' = w1.drewN k) := by
          intro q
          have := split_quiet V t w1 q (by omega) ht
          rw [hV1, hV2] at this
          exact this
        obtain ⟨E1, hE1⟩ : ∃ x, E * 2 ^ t = x := ⟨_, rfl⟩
        obtain ⟨E3, hE3⟩ : ∃ x, (E1 + T) * 2 ^ t = x := ⟨_, rfl⟩
        have m1 : E1 ≤ 511 * 8 := by rw [← hE1]; exact Nat.mul_le_mul (by omega) h8
        have m3 : E3 ≤ 4095 * 8 := by rw [← hE3]; exact Nat.mul_le_mul (by omega) h8
        have q1 : (E : Int) * 2 ^ t = (E1 : Int) := by rw [← hE1]; simp
        have q3 : ((E1 + T : Nat) : Int) * 2 ^ t = (E3 : Int) := by rw [← hE3]; simp
        have q2 := or_join (a := E) (b := T) (t := t) (by omega) l2 (by omega)
        have q4 := or_join (a := E1 + T) (b := L) (t := t) (by omega) l3 (by omega)
        rw [hE1] at q2 p1 HK
        rw [hE3] at q4 p1 HK
        obtain ⟨E2, hE2⟩ : ∃ x, E1 + T = x := ⟨_, rfl⟩
        obtain ⟨K, hK⟩ : ∃ x, E3 + L = x := ⟨_, rfl⟩
        rw [hE2] at q2 q3
        rw [hK] at q4 p1 HK
        have s1 : IntKind.i64.wrap (E1 : Int) = (E1 : Int) := IntWalk.i64_in _ (by omega)
        have s3 : IntKind.i64.wrap (E3 : Int) = (E3 : Int) := IntWalk.i64_in _ (by omega)
        have s5 : IntKind.i64.wrap (V : Int) = (V : Int) := IntWalk.i64_in _ (by omega)
        generalize sizN t = N at *
        clear HQ hO hBl hG h1 h2 h3 hE1 hE2 hE3 hK hV hV1 hV2 hX n1 n2 l1 l2 l3 h8 HL
        go_wp2_with fail
        refine F1.out.mono ?_
        rintro e w' ⟨rfl, rfl⟩
        go_wp2_with fail
        refine F2.out.mono ?_
        rintro e w' ⟨rfl, rfl⟩
        go_wp2_with fail
        refine F3.out.mono ?_
        rintro e w' ⟨rfl, rfl⟩
        clear F1 F2 F3
        go_wp2_with fail
        go_quiet ((go_at_call 34; exact HSp.out _))
        go_wp2_with fail
        go_ret3
        exact HR.out _
      · have F3 := Lib.hid (fits_any left t w1 (by omega))
        rw [decide_eq_false h3] at F3
        have HR := Lib.hid (HQ.out (fun h => h3 h.2.2))
        clear HQ hO hBl hG h1 h2 h3
        go_wp2_with fail
        refine F1.out.mono ?_
        rintro e w' ⟨rfl, rfl⟩
        go_wp2_with fail
        refine F2.out.mono ?_
        rintro e w' ⟨rfl, rfl⟩
        go_wp2_with fail
        refine F3.out.mono ?_
        rintro e w' ⟨rfl, rfl⟩
        go_wp2_with fail
        go_ret3
        exact HR.out
    · have F2 := Lib.hid (fits_any top t w1 (by omega))
      rw [decide_eq_false h2] at F2
      have HR := Lib.hid (HQ.out (fun h => h2 h.2.1))
      clear HQ hO hBl hG h1 h2
      go_wp2_with fail
      refine F1.out.mono ?_
      rintro e w' ⟨rfl, rfl⟩
      go_wp2_with fail
      refine F2.out.mono ?_
      rintro e w' ⟨rfl, rfl⟩
      go_wp2_with fail
      go_ret3
      exact HR.out
  · have F1 := Lib.hid (fits_any eq Y w1 hX9)
    rw [decide_eq_false h1] at F1
    have HR := Lib.hid (HQ.out (fun h => h1 (by rw [← hX]; exact h.1)))
    clear HQ hO hBl hG h1
    go_wp2_with fail
    refine F1.out.mono ?_
    rintro e w' ⟨rfl, rfl⟩
    go_wp2_with fail
    go_ret3
    exact HR.out

/-- What New leaves. -/
def NwMade (t : Int) (w : World) (e : Ending) (w' : World) : Prop :=
  (1 ≤ t ∧ t ≤ 3 ∧ e = .returned (.tuple #[.pointer (some ⟨w.heap.size, 0, none⟩), .int .i64 0]) ∧ TilO t.toNat w.heap.size 0 0 (.slice none 0 0) w' ∨ ¬ (1 ≤ t ∧ t ≤ 3) ∧ e = .returned (.tuple #[.pointer none, .int .i64 1])) ∧ Below w.heap.size w w'

theorem tilO_new (t : Nat) (w : World) : TilO t w.heap.size 0 0 (.slice none 0 0) (w.alloc (.cells #[.int .i64 (t : Int), .int .u32 0, .int .i32 0, .int .u32 0, .slice none 0 0] 66)) :=
  World.rowIs_alloc w _ _ _ (cv5_cases rfl rfl rfl rfl rfl)

set_option maxHeartbeats 800000 in
theorem new_any (t : Int) (w : World) : Calls Try.prog 16 #[.int .i64 t] w (NwMade t w) := by
  by_cases h1 : t < 1
  · have HQ : Hid (NwMade t w (.returned (.tuple #[.pointer none, .int .i64 1])) w) := ⟨.inr ⟨by omega, rfl⟩, Below.refl _ _⟩
    go_enter Try.func16, Try.ntmps16
    go_wp2_with fail
    go_ret2
    exact HQ.out
  · by_cases h2 : 3 < t
    · have HQ : Hid (NwMade t w (.returned (.tuple #[.pointer none, .int .i64 1])) w) := ⟨.inr ⟨by omega, rfl⟩, Below.refl _ _⟩
      go_enter Try.func16, Try.ntmps16
      go_wp2_with fail
      go_ret2
      exact HQ.out
    · obtain ⟨n, rfl⟩ := Int.eq_ofNat_of_zero_le (show 0 ≤ t by omega)
      have HQ : Hid (NwMade (n : Int) w (.returned (.tuple #[.pointer (some ⟨w.heap.size, 0, none⟩), .int .i64 0])) (w.alloc (.cells #[.int .i64 (n : Int), .int .u32 0, .int .i32 0, .int .u32 0, .slice none 0 0] 66))) := ⟨.inl ⟨by omega, by omega, rfl, tilO_new n w⟩, below_a1 _ _⟩
      go_enter Try.func16, Try.ntmps16
      go_wp2_with fail
      go_ret2
      exact HQ.out

end Go.Proofs.Ytdedmmeefffpkaa

namespace Go.Proofs.Ytdedmmeefffpkaa
open Go.RowKit

theorem Try.infoInts2 : (Try.prog.info? 31).map (fun i => (i.zero, i.size, i.bytes)) = some (some (.slice none 0 0), 1, 24) := by kernel_rfl

/-- k rows of noughts are made. -/
def SmR (t T k : Nat) (wr : World) : Prop :=
  wr.rowIs T 31 (t + 1) (fun r => if r < k then .slice (some ⟨T + 1 + r, 0, none⟩) (t + 1) (t + 1) else .slice none 0 0) ∧ (∀ r, r < k → wr.rowIs (T + 1 + r) 3 (t + 1) (fun _ => .int .i64 0)) ∧ wr.heap.size = T + 1 + k
theorem sm_start (t : Nat) (w : World) : SmR t w.heap.size 0 (w.alloc (.cells (madeCells #[.slice none 0 0] (t + 1)) 31)) :=
  ⟨(World.rowIs_made w _ _ _).congr fun i _ => by simp, fun r h => by omega, by simp⟩
theorem sm_step {t T k : Nat} {wr : World} (h : SmR t T k wr) : SmR t T (k + 1) ((wr.alloc (.cells (madeCells #[.int .i64 0] (t + 1)) 3)).setCell ⟨T, k, none⟩ (.slice (some ⟨T + 1 + k, 0, none⟩) (t + 1) (t + 1))) := by
  obtain ⟨h1, h2, h3⟩ := h
  refine ⟨((h1.alloc _).set k _).congr fun i hi => ?_, fun r hr => ?_, by simp [h3]; omega⟩
  · by_cases e : i = k
    · subst e
      rw [if_pos rfl, if_pos (by omega)]
    · rw [if_neg e]
      by_cases g : i < k
      · rw [if_pos g, if_pos (by omega)]
      · rw [if_neg g, if_neg (by omega)]
  · by_cases e : r = k
    · subst e
      have := World.rowIs_made wr (.int .i64 0) (t + 1) 3
      rw [h3] at this
      exact this.setOther (by show T + 1 + r ≠ T; omega) _
    · exact World.rowIs.setOther (World.rowIs.alloc (h2 r (by omega)) _) (by show T + 1 + r ≠ T; omega) _

/-- The reference's table: of it the told places are as they should be. -/
def SqR (S : Nat → Nat → Nat) (t : Nat) (K : Nat → Nat → Prop) (w wr : World) : Prop :=
  wr.rowIs w.heap.size 31 (t + 1) (fun r => .slice (some ⟨w.heap.size + 1 + r, 0, none⟩) (t + 1) (t + 1)) ∧
    (∃ g : Nat → Nat → Int, (∀ r, r ≤ t → wr.rowIs (w.heap.size + 1 + r) 3 (t + 1) (fun c => .int .i64 (g r c))) ∧ ∀ r c, r ≤ t → c ≤ t → K r c → g r c = (S r c : Int)) ∧ Below w.heap.size w wr
section
variable {S : Nat → Nat → Nat} {t : Nat} {K K' : Nat → Nat → Prop} {w wr wr' : World}
theorem sm_done (h : SmR t w.heap.size (t + 1) wr) (hb : Below w.heap.size w wr) (h0 : S 0 0 = 0) : SqR S t (FlA 0 0) w wr := by
  refine ⟨h.1.congr fun i hi => by rw [if_pos hi], ⟨fun _ _ => 0, fun r hr => h.2.1 r (by omega), fun r c _ _ hk => ?_⟩, hb⟩
  have : r = 0 ∧ c = 0 := by unfold FlA at hk; omega
  obtain ⟨rfl, rfl⟩ := this
  simp [h0]
theorem SqR.weak (h : SqR S t K w wr) (hk : ∀ r c, r ≤ t → c ≤ t → K' r c → K r c) : SqR S t K' w wr := by
  obtain ⟨h0, ⟨g, h1, h2⟩, h3⟩ := h
  exact ⟨h0, ⟨g, h1, fun r c a b k => h2 r c a b (hk r c a b k)⟩, h3⟩
theorem SqR.drew (h : SqR S t K w wr) : SqR S t K w wr.drew := by
  obtain ⟨h0, ⟨g, h1, h2⟩, h3⟩ := h
  exact ⟨h0, ⟨g, h1, h2⟩, h3.drew⟩
theorem SqR.top (h : SqR S t K w wr) {r : Nat} (hr : r ≤ t) : wr.cell? ⟨w.heap.size, r, none⟩ = some (.slice (some ⟨w.heap.size + 1 + r, 0, none⟩) (t + 1) (t + 1)) := World.rowIs.cell h.1 (by omega)
theorem SqR.cell (h : SqR S t K w wr) {r c : Nat} (hr : r ≤ t) (hc : c ≤ t) (hk : K r c) : wr.cell? ⟨w.heap.size + 1 + r, c, none⟩ = some (.int .i64 (S r c : Int)) := by
  obtain ⟨h0, ⟨g, h1, h2⟩, h3⟩ := h
  rw [World.rowIs.cell (h1 r hr) (by omega), h2 r c hr hc hk]
theorem SqR.any (h : SqR S t K w wr) {r c : Nat} (hr : r ≤ t) (hc : c ≤ t) : ∃ v, wr.cell? ⟨w.heap.size + 1 + r, c, none⟩ = some v := by
  obtain ⟨h0, ⟨g, h1, h2⟩, h3⟩ := h
  exact ⟨_, World.rowIs.cell (h1 r hr) (by omega)⟩
theorem SqR.frozen (h : SqR S t K w wr) {r : Nat} (hr : r ≤ t) (i : Nat) : wr.frozen? ⟨w.heap.size + 1 + r, i, none⟩ = false := by
  obtain ⟨h0, ⟨g, h1, h2⟩, h3⟩ := h
  exact World.rowIs.frozen (h1 r hr) i
theorem SqR.put (h : SqR S t K w wr) {r c : Nat} {v : Int} (hv : v = (S r c : Int)) (hk : ∀ r' c', r' ≤ t → c' ≤ t → K' r' c' → K r' c' ∨ (r' = r ∧ c' = c)) : SqR S t K' w (wr.setCell ⟨w.heap.size + 1 + r, c, none⟩ (.int .i64 v)) := by
  subst hv
  obtain ⟨h0, ⟨g, h1, h2⟩, h3⟩ := h
  refine ⟨World.rowIs.setOther h0 (by show w.heap.size ≠ w.heap.size + 1 + r; omega) _, ⟨fun r' c' => if r' = r ∧ c' = c then (S r c : Int) else g r' c', fun r' hr' => ?_, fun r' c' hr' hc' hk' => ?_⟩, h3.setCell (by show _ ≤ w.heap.size + 1 + r; omega) _⟩
  · by_cases e : r' = r
    · subst e
      refine World.rowIs.congr (World.rowIs.set (h1 r' hr') c _) fun j _ => ?_
      by_cases e : j = c
      · simp [e]
      · simp [e]
    · refine World.rowIs.congr (World.rowIs.setOther (h1 r' hr') (by show w.heap.size + 1 + r' ≠ w.heap.size + 1 + r; omega) _) fun j _ => ?_
      simp [e]
  · rcases hk r' c' hr' hc' hk' with hk'' | ⟨rfl, rfl⟩
    · by_cases e : r' = r ∧ c' = c
      · obtain ⟨rfl, rfl⟩ := e
        simp
      · simp only [if_neg e]
        exact h2 r' c' hr' hc' hk''
    · simp
theorem SqR.below (h : SqR S t K w wr) (hb : Below wr.heap.size wr wr') : SqR S t K w wr' := by
  obtain ⟨h0, ⟨g, h1, h2⟩, h3⟩ := h
  exact ⟨rowIs_grown h0 (below_grown hb none) (by simp), ⟨g, fun r hr => rowIs_grown (h1 r hr) (below_grown hb none) (by simp), h2⟩, below_go h3 hb⟩
end
/-- What Square leaves. -/
def SqMade (S : Nat → Nat → Nat) (t : Nat) (w : World) (e : Ending) (w' : World) : Prop := e = .returned (.slice (some ⟨w.heap.size, 0, none⟩) (t + 1) (t + 1)) ∧ SqR S t (FlB t 0) w w'

end Go.Proofs.Ytdedmmeefffpkaa

namespace Go.Proofs.Ytdedmmeefffpkaa
open Go.RowKit

theorem add_num {K d k : Nat} (hk : k < 3) (h : K < 2 ^ k) (hd : d ≤ 1) : wrap64 ((K : Int) + wrap64 ((d : Int) * 2 ^ k)) = ((K + d * 2 ^ k : Nat) : Int) := by
  have : ∀ k : Nat, k < 3 → ∀ K : Nat, K < 2 ^ k → ∀ d : Nat, d < 2 → wrap64 ((K : Int) + wrap64 ((d : Int) * 2 ^ k)) = ((K + d * 2 ^ k : Nat) : Int) := by decide +kernel
  exact this k hk K h d (by omega)

def OnR (x : Nat) (w : World) (n i : Value) (wr : World) : Prop := ∃ k : Nat, k ≤ 62 ∧ i = .int .i64 (k : Int) ∧ n = .int .i64 (sumN (bitN x) k : Nat) ∧ wr = w
theorem sumN_le (x : Nat) : ∀ k, sumN (bitN x) k ≤ k
  | 0 => Nat.le_refl _
  | k + 1 => by have := sumN_le x k; have := bitN_le x k; rw [sumN]; omega
def RlMade (t : Nat) (eq top left : Int) (w : World) (e : Ending) (w' : World) : Prop := e = .returned (lookV t eq top left) ∧ Below w.heap.size w w'
def RlR (S : Nat → Nat → Nat) (f g : Nat → Nat) (t : Nat) (w : World) (b r i : Value) (wr : World) : Prop :=
  ∃ c : Nat, 1 ≤ c ∧ c ≤ t + 1 ∧ i = .int .i64 (c : Int) ∧ b = .int .i64 (num f (c - 1) : Nat) ∧ r = .int .i64 (num g (c - 1) : Nat) ∧ SqR S t (FlB t 0) w wr

end Go.Proofs.Ytdedmmeefffpkaa

namespace Go.Proofs.Ytdedmmeefffpkaa
open Go.RowKit

section
variable {X : Nat → Prop} {t b : Nat} {w w' : World}
theorem TilX.c0 (h : TilX X t b w) : w.cell? ⟨b, 0, none⟩ = some (.int .i64 (t : Int)) := by
  rcases h with ⟨v0, h⟩ | ⟨g, h, _⟩
  · exact h.c0
  · exact h.c0
theorem TilX.below (h : TilX X t b w) (hb : Below w.heap.size w w') : TilX X t b w' := by
  rcases h with ⟨v0, h⟩ | ⟨g, h1, h2, h3, h4⟩
  · exact .inl ⟨v0, h.below hb⟩
  · exact .inr ⟨g, h1.below hb, rowIs_grown h2 (below_grown hb none) (by simp), h3, h4⟩
theorem TilX.drewN (h : TilX X t b w) (q : Nat) : TilX X t b (w.drewN q) := TilX.below h (below_drewN (Below.refl _ _) q)
end

theorem new_ok (t : Nat) (w : World) (ht : 1 ≤ t ∧ t ≤ 3) : Calls Try.prog 16 #[.int .i64 (t : Int)] w fun e w' => ∃ b, e = .returned (.tuple #[.pointer (some ⟨b, 0, none⟩), .int .i64 0]) ∧ TilO t b 0 0 (.slice none 0 0) w' ∧ w.heap.size ≤ b ∧ Below w.heap.size w w' := by
  refine (new_any (t : Int) w).mono fun e w' h => ?_
  obtain ⟨⟨_, _, h1, h2⟩ | ⟨h1, _⟩, hb⟩ := h
  · rw [Int.toNat_natCast] at h2
    exact ⟨w.heap.size, h1, h2, Nat.le_refl _, hb⟩
  · omega
theorem new_no (t : Int) (w : World) (ht : ¬ (1 ≤ t ∧ t ≤ 3)) : Calls Try.prog 16 #[.int .i64 t] w fun e w' => e = .returned (.tuple #[.pointer none, .int .i64 1]) ∧ Below w.heap.size w w' := by
  refine (new_any t w).mono fun e w' h => ?_
  obtain ⟨⟨h1, h2, _⟩ | ⟨_, h1⟩, hb⟩ := h
  · exact absurd ⟨h1, h2⟩ ht
  · exact ⟨h1, hb⟩
theorem look_w (t b : Nat) (eq top left : Int) (V : Value) (w0 w : World) (ht : 1 ≤ t ∧ t ≤ 3) (h : Til t b w) (hb : Below w0.heap.size w0 w) (h0 : w0.heap.size ≤ b) (hV : lookV t eq top left = V) :
    Calls Try.prog 25 #[.pointer (some ⟨b, 0, none⟩), .int .i64 eq, .int .i64 top, .int .i64 left] w fun e w' => e = .returned V ∧ Til t b w' ∧ Below w0.heap.size w0 w' ∧ w.grownBy w' (some b) := by
  refine (look_any (fun _ => False) t b eq top left w ht (fun _ h => h.elim) h).mono fun e w' h' => ?_
  obtain ⟨h1, h2, h3⟩ := h'
  exact ⟨by rw [h1, hV], .inr h2, hb.grown h3 hb.size (fun k e => by cases e; exact h0), h3⟩
theorem side_w (b t : Nat) (w0 w : World) (h : Til t b w) (hb : Below w0.heap.size w0 w) : Calls Try.prog 15 #[.pointer (some ⟨b, 0, none⟩)] w fun e w' => e = .returned (.int .i64 (t : Int)) ∧ Til t b w' ∧ Below w0.heap.size w0 w' := by
  refine (side_any b t w h.c0).mono fun e w' h' => ?_
  obtain ⟨h1, rfl⟩ := h'
  exact ⟨h1, h, hb⟩
theorem size_w (b t : Nat) (w0 w : World) (ht : 1 ≤ t ∧ t ≤ 3) (h : Til t b w) (hb : Below w0.heap.size w0 w) : Calls Try.prog 38 #[.pointer (some ⟨b, 0, none⟩)] w fun e w' => e = .returned (.int .i64 (sizN t : Nat)) ∧ Til t b w' ∧ Below w0.heap.size w0 w' := by
  refine (size_any b t w ht h.c0).mono fun e w' h' => ?_
  obtain ⟨h1, q, rfl⟩ := h'
  exact ⟨h1, h.drewN q, below_drewN hb q⟩
/-- The square's table, to be reckoned. -/
def sqG (E : Nat → Nat → Bool) (T L : Nat → Nat) : Nat → Nat → Nat
  | 0 => fun c => Nat.rec 0 (fun c x => x + T c) c
  | r + 1 => fun c => Nat.rec (sqG E T L r 0 + L r) (fun c x => if E r c = true then sqG E T L r c + 1 else max (sqG E T L r (c + 1)) x) c
theorem sqG_is (E : Nat → Nat → Bool) (T L : Nat → Nat) : ∀ r c, sqF E T L r c = sqG E T L r c
  | 0, 0 => sq_00
  | 0, c + 1 => by rw [sq_0c, sqG_is E T L 0 c]; rfl
  | r + 1, 0 => by rw [sq_r0, sqG_is E T L r 0]; rfl
  | r + 1, c + 1 => by rw [sq_rc, sqG_is E T L r c, sqG_is E T L r (c + 1), sqG_is E T L (r + 1) c]; rfl
termination_by r c => (r, c)
def sqC (t eq top left : Nat) : Nat → Nat → Nat := sqG (fun r c => decide (bitN eq (r * t + c) = 1)) (bitN top) (bitN left)
theorem sqC_is (t eq top left : Nat) : sqN t eq top left = sqC t eq top left := by
  funext r c
  exact sqG_is _ _ _ r c
def botC (t eq top left : Nat) : Nat := num (fun c => sqC t eq top left t (c + 1) - sqC t eq top left t c) t
def rgtC (t eq top left : Nat) : Nat := num (fun r => sqC t eq top left (r + 1) t - sqC t eq top left r t) t
theorem botC_is (t eq top left : Nat) : botN t eq top left = botC t eq top left := by
  unfold botN botC
  refine num_congr fun k _ => ?_
  unfold botF
  rw [sqC_is]
theorem rgtC_is (t eq top left : Nat) : rgtN t eq top left = rgtC t eq top left := by
  unfold rgtN rgtC
  refine num_congr fun k _ => ?_
  unfold rgtF
  rw [sqC_is]
theorem lookV_lit {t : Nat} {eq top left B R : Int} (h : inSq t eq top left) (h1 : ((botC t eq.toNat top.toNat left.toNat : Nat) : Int) = B) (h2 : ((rgtC t eq.toNat top.toNat left.toNat : Nat) : Int) = R) : lookV t eq top left = .tuple #[.int .i64 B, .int .i64 R, .int .i64 0] := by
  unfold lookV
  rw [if_pos h, botC_is, rgtC_is, h1, h2]
  rfl
theorem lookV_some (t : Nat) (eq top left : Int) : ∃ A B C : Int, lookV t eq top left = .tuple #[.int .i64 A, .int .i64 B, .int .i64 C] := by
  unfold lookV three
  split
  · exact ⟨_, _, _, rfl⟩
  · exact ⟨_, _, _, rfl⟩
theorem inSq_of {t e p l : Nat} (h1 : e < 2 ^ (t * t)) (h2 : p < 2 ^ t) (h3 : l < 2 ^ t) : inSq t (e : Int) (p : Int) (l : Int) :=
  ⟨⟨Int.natCast_nonneg _, Int.ofNat_lt.2 h1⟩, ⟨Int.natCast_nonneg _, Int.ofNat_lt.2 h2⟩, Int.natCast_nonneg _, Int.ofNat_lt.2 h3⟩

end Go.Proofs.Ytdedmmeefffpkaa
