/-
  Words and contracts that the proof leans on.
-/
import Derived.Test.YtokgabijjgndgaaM18
import Derived.Test.YtokgabijjgndgaaM21
import Derived.Deep.OwnRows
import Derived.Deep.DeepCutAuto
namespace Go.Proofs.Ytokgabijjgndgaa
open Go.RowKit

/-- A function of a vector and a width. -/
def Op1OK (f : FuncId) (g : List Nat → Nat → Bool) : Prop := ∀ (A : Option Addr) (m c : Nat) (x : List Nat) (n : Int) (w : World), x.length = m → m ≤ 16384 → m ≤ c → c ≤ maxLen → I64 n → Row w A (uv x) → Wd x →
  Calls Try.prog f #[.slice A m c, .int .i64 n] w (MadeV (wdsVc3 n) (fun j => decide (j < wid n) && g x j) w)
def OnesOK : Prop := ∀ (n : Int) (w : World), I64 n → Calls Try.prog 26 #[.int .i64 n] w (MadeV (wdsVc3 n) (fun j => decide (j < wid n) && true) w)
def GetOK : Prop := ∀ (A : Option Addr) (n c : Nat) (i : Int) (x : List Nat) (w : World), x.length = n → n ≤ 16384 → n ≤ c → c ≤ maxLen → I64 i → Row w A (uv x) → Wd x → Calls Try.prog 46 #[.slice A n c, .int .i64 i] w fun e w' => e = .returned (.bool (btI x i)) ∧ Below w.heap.size w w'
def CountOK : Prop := ∀ (A : Option Addr) (m c : Nat) (x : List Nat) (n : Int) (w : World), x.length = m → m ≤ 16384 → m ≤ c → c ≤ maxLen → I64 n → Row w A (uv x) → Wd x → Calls Try.prog 29 #[.slice A m c, .int .i64 n] w fun e w' => e = .returned (.int .i64 (cnt (bt x) (wid n) : Nat)) ∧ Below w.heap.size w w'
/-- Two vectors with the same bits are the same. -/
theorem made_same {W : Nat} {b b' : Nat → Bool} {x y : List Nat} (hx : x.length = W) (hy : y.length = W) (wx : Wd x) (wy : Wd y) (bx : ∀ j, bt x j = (decide (j < 64 * W) && b j)) (by' : ∀ j, bt y j = (decide (j < 64 * W) && b' j)) (h : ∀ j, j < 64 * W → b j = b' j) : x = y :=
  words_eq (by omega) wx wy fun j => by
    rw [bx, by']
    by_cases hj : j < 64 * W
    · rw [h j hj]
    · rw [decide_eq_false hj, Bool.false_and, Bool.false_and]
/-- A vector whose words are told. -/
theorem made_is {W : Nat} {b : Nat → Bool} {x : List Nat} (y : List Nat) (hx : x.length = W) (wx : Wd x) (bx : ∀ j, bt x j = (decide (j < 64 * W) && b j)) (hy : y.length = W) (wy : Wd y) (h : ∀ j, j < 64 * W → b j = bt y j) : x = y :=
  made_same hx hy wx wy bx (b' := bt y) (fun j => by
    by_cases hj : j < 64 * W
    · rw [decide_eq_true hj, Bool.true_and]
    · rw [decide_eq_false hj, Bool.false_and, bt_out (by omega)]) h

end Go.Proofs.Ytokgabijjgndgaa

namespace Go.Proofs.Ytokgabijjgndgaa
open Go.RowKit

theorem wid_lo {n : Int} (h : n < 0) : (0 : Int) = (wid n : Nat) := by unfold wid; rw [if_pos h]; rfl
theorem wid_hi {n : Int} (h : 1048576 < n) : (1048576 : Int) = (wid n : Nat) := by unfold wid; rw [if_neg (by omega), if_pos h]; rfl
theorem wid_mid {n : Int} (h : ¬ n < 0) (h1 : ¬ 1048576 < n) : n = (wid n : Nat) := by unfold wid; rw [if_neg h, if_neg h1]; omega

theorem pwidth (n : Int) (w : World) : Calls Try.prog 50 #[.int .i64 n] w fun e w' => e = .returned (.int .i64 (wid n : Nat)) ∧ w = w' := by
  obtain ⟨r, hr⟩ : ∃ r, wid n = r := ⟨_, rfl⟩
  rw [hr]
  by_cases h0 : n < 0
  · have HR := Lib.hid (hr ▸ wid_lo h0)
    clear hr
    go_enter Try.func50, Try.ntmps50
    go_wp2_with fail
    all_goals (go_ret; exact ⟨ret_int HR.out, rfl⟩)
  · by_cases h1 : 1048576 < n
    · have HR := Lib.hid (hr ▸ wid_hi h1)
      clear hr
      go_enter Try.func50, Try.ntmps50
      go_wp2_with fail
      all_goals (go_ret; exact ⟨ret_int HR.out, rfl⟩)
    · have HR := Lib.hid (hr ▸ wid_mid h0 h1)
      clear hr
      go_enter Try.func50, Try.ntmps50
      go_wp2_with fail
      all_goals (go_ret; exact ⟨ret_int HR.out, rfl⟩)

theorem pwords (n : Int) (w : World) : Calls Try.prog 31 #[.int .i64 n] w fun e w' => e = .returned (.int .i64 (wdsVc3 n : Nat)) ∧ w = w' := by
  have h := wid_le n
  have HE : Hid ((((wid n : Nat) : Int) + 64 - 1) / 64 = (wdsVc3 n : Nat)) := by show _ = _; unfold wdsVc3; omega
  go_enter Try.func31, Try.ntmps31
  go_wp2_with fail
  refine (pwidth n _).mono ?_
  rintro e w' ⟨rfl, rfl⟩
  generalize wid n = N at *
  go_wp2_with fail
  go_ret
  exact ⟨ret_int HE.out, rfl⟩
/-- Word k, where words of noughts follow. -/
def wd (x : List Nat) (k : Nat) : Nat := x[k]?.getD 0
theorem wd_in {x : List Nat} {k : Nat} (h : k < x.length) : x[k] = wd x k := by unfold wd; rw [List.getElem?_eq_getElem h]; rfl
theorem wd_out {x : List Nat} {k : Nat} (h : x.length ≤ k) : 0 = wd x k := by unfold wd; rw [List.getElem?_eq_none h]; rfl
theorem wd_lt {x : List Nat} (h : Wd x) (k : Nat) : wd x k < 18446744073709551616 := by
  by_cases hk : k < x.length
  · rw [← wd_in hk]; exact h _ (List.getElem_mem hk)
  · rw [← wd_out (by omega)]; decide
theorem bt_wd (x : List Nat) (j : Nat) : bt x j = (wd x (j / 64)).testBit (j % 64) := rfl

theorem pword (A : Option Addr) (n c k : Nat) (x : List Nat) (w : World) (hn : x.length = n) (hr : Row w A (uv x)) :
    Calls Try.prog 49 #[.slice A n c, .int .i64 (k : Int)] w fun e w' => e = .returned (.int .u64 (wd x k : Nat)) ∧ w = w' := by
  subst hn
  by_cases hk : k < x.length
  · obtain ⟨g, o, rfl, hc⟩ := hr.word hk
    rw [wd_in hk] at hc
    generalize wd x k = u at *
    clear hr
    go_enter Try.func49, Try.ntmps49
    go_wp2_with fail
    go_ret
    exact ⟨rfl, rfl⟩
  · rw [← wd_out (by omega)]
    clear hr
    go_enter Try.func49, Try.ntmps49
    go_wp2_with fail
    go_ret
    exact ⟨rfl, rfl⟩

/-- Is there such a bit? -/
def hasB (n : Nat) (i : Int) : Bool := decide (0 ≤ i ∧ i < 64 * (n : Int))
theorem phas (A : Option Addr) (n c : Nat) (i : Int) (w : World) (hi : I64 i) (hn : n ≤ 16384) :
    Calls Try.prog 52 #[.slice A n c, .int .i64 i] w fun e w' => e = .returned (.bool (hasB n i)) ∧ w = w' := by
  unfold I64 at hi
  obtain ⟨r, hr⟩ : ∃ r, hasB n i = r := ⟨_, rfl⟩
  rw [hr]
  by_cases h0 : 0 ≤ i
  · obtain ⟨k, rfl⟩ := Int.eq_ofNat_of_zero_le h0
    by_cases h1 : k / 64 < n
    · have HR : Hid (r = true) := by show _ = _; rw [← hr]; unfold hasB; simp; omega
      clear hr
      go_enter Try.func52, Try.ntmps52
      go_wp2_with fail
      go_ret
      exact ⟨ret_bool (by rw [HR.out]; simp; omega), rfl⟩
    · have HR : Hid (r = false) := by show _ = _; rw [← hr]; unfold hasB; simp; omega
      clear hr
      go_enter Try.func52, Try.ntmps52
      go_wp2_with fail
      go_ret
      exact ⟨ret_bool (by rw [HR.out]; simp; omega), rfl⟩
  · have HR : Hid (r = false) := by show _ = _; rw [← hr]; unfold hasB; simp; omega
    clear hr
    go_enter Try.func52, Try.ntmps52
    go_wp2_with fail
    go_ret
    exact ⟨ret_bool HR.out.symm, rfl⟩

theorem pow_wrap (s : Nat) (hs : s < 64) : IntKind.u64.wrap ((2 : Int) ^ s) = ((2 ^ s : Nat) : Int) := by
  have h2 : 2 ^ s < 18446744073709551616 := Nat.lt_of_lt_of_le (Nat.pow_lt_pow_right (by decide) hs) (by decide)
  have e1 : ((2 : Int) ^ s) = ((2 ^ s : Nat) : Int) := by rw [Int.natCast_pow]; rfl
  rw [e1, IntKind.wrap_u64]
  clear e1
  generalize 2 ^ s = P at *
  omega
theorem pbit (k : Nat) (w : World) (hk : k ≤ 1048576) :
    Calls Try.prog 53 #[.int .i64 (k : Int)] w fun e w' => e = .returned (.int .u64 (2 ^ (k % 64) : Nat)) ∧ w = w' := by
  have h64 : k % 64 < 64 := Nat.mod_lt _ (by decide)
  have HP := Lib.hid (pow_wrap (k % 64) h64)
  go_enter Try.func53, Try.ntmps53
  go_wp2_with fail
  go_ret
  exact ⟨ret_int HP.out, rfl⟩

end Go.Proofs.Ytokgabijjgndgaa

namespace Go.Proofs.Ytokgabijjgndgaa
open Go.RowKit

/-- A row of words that is told word by word, as new words with such bits. -/
theorem made_of {W T : Nat} {F : Nat → Nat} {g : Nat → Bool} {w wr : World} (hF : ∀ k, k < W → F k < 18446744073709551616) (hg : ∀ j, j < 64 * W → (F (j / 64)).testBit (j % 64) = g j)
    (hr : wr.rowIs T 24 W (fun k => .int .u64 (F k : Nat))) (hT : w.heap.size ≤ T) (hW : W ≤ maxLen) (hb : Below w.heap.size w wr) :
    MadeV W g w (.returned (.slice (some ⟨T, 0, none⟩) W W)) wr := by
  refine ⟨_, (List.range W).map F, rfl, by simp, ?_, fun j => ?_, ?_, hb⟩
  · intro u hu
    obtain ⟨k, hk, rfl⟩ := List.mem_map.1 hu
    exact hF k (List.mem_range.1 hk)
  · unfold bt
    rw [List.getElem?_map]
    by_cases hj : j / 64 < W
    · rw [List.getElem?_range hj, decide_eq_true (show j < 64 * W by omega), Bool.true_and, ← hg j (by omega)]
      rfl
    · rw [List.getElem?_eq_none (by simp; omega), decide_eq_false (by omega), Bool.false_and]
      simp
  · have := own_rowIs hr hT hW
    simpa [uv, List.map_map, Function.comp_def] using this

/-- The head of a round: k words are told. -/
def WRel (W : Nat) (F : Nat → Nat) (w : World) (i : Value) (wr : World) : Prop :=
  ∃ k : Nat, k ≤ W ∧ i = .int .i64 (k : Int) ∧ wr.rowIs w.heap.size 24 W (fun j => .int .u64 ((if j < k then F j else 0 : Nat) : Int)) ∧ Below w.heap.size w wr
theorem wrel_start {W : Nat} {F : Nat → Nat} {w wr : World} (hr : wr.rowIs w.heap.size 24 W (fun _ => .int .u64 0)) (hb : Below w.heap.size w wr) : WRel W F w (.int .i64 0) wr :=
  ⟨0, Nat.zero_le _, rfl, hr.congr fun i _ => by rw [if_neg (Nat.not_lt_zero _)]; rfl, hb⟩
theorem wrel_next {W : Nat} {F : Nat → Nat} {w wr : World} {k : Nat} (hk : k < W) (hr : wr.rowIs w.heap.size 24 W (fun j => .int .u64 ((if j < k then F j else 0 : Nat) : Int))) (hb : Below w.heap.size w wr) {z : Int} (hz : z = (F k : Nat)) :
    WRel W F w (.int .i64 (k + 1 : Nat)) (wr.setCell ⟨w.heap.size, k, none⟩ (.int .u64 z)) := by
  refine ⟨k + 1, by omega, rfl, (hr.set k _).congr fun i _ => ?_, hb.setCell (Nat.le_refl _) _⟩
  subst hz
  by_cases e : i = k
  · rw [if_pos e, if_pos (by omega), e]
  · rw [if_neg e]
    by_cases g : i < k
    · rw [if_pos g, if_pos (by omega)]
    · rw [if_neg g, if_neg (by omega)]
end Go.Proofs.Ytokgabijjgndgaa

namespace Go.Proofs.Ytokgabijjgndgaa
open Go.RowKit

/-- How many words are worked out. -/
def stepsW (n m : Int) : Int := if 0 ≤ n ∧ n ≤ 1048576 ∧ 0 ≤ m ∧ m ≤ 1048576 then n * (wdsVc3 m : Nat) else 0
theorem stepsW_no {n m : Int} (h : ¬ (0 ≤ n ∧ n ≤ 1048576 ∧ 0 ≤ m ∧ m ≤ 1048576)) : 0 = stepsW n m := by unfold stepsW; rw [if_neg h]
theorem stepsW_yes {n m : Int} (h : 0 ≤ n ∧ n ≤ 1048576 ∧ 0 ≤ m ∧ m ≤ 1048576) : ∃ N W X : Nat, n = N ∧ wdsVc3 m = W ∧ N * W = X ∧ X ≤ 17179869184 ∧ ((N : Int) * (W : Int) = (X : Int)) ∧ (X : Int) = stepsW n m := by
  obtain ⟨N, rfl⟩ := Int.eq_ofNat_of_zero_le h.1
  have h2 := wds_le m
  refine ⟨N, wdsVc3 m, N * wdsVc3 m, rfl, rfl, rfl, ?_, (Int.natCast_mul _ _).symm, ?_⟩
  · have := Nat.mul_le_mul (show N ≤ 1048576 by omega) h2
    omega
  · unfold stepsW
    rw [if_pos h, Int.natCast_mul]

end Go.Proofs.Ytokgabijjgndgaa

namespace Go.Proofs.Ytokgabijjgndgaa
open Go.RowKit

/-- What clearFrom makes of words: the bits from N on go. -/
def keepW (N : Nat) (F : Nat → Nat) (k : Nat) : Nat := if k = N / 64 ∧ N % 64 ≠ 0 then F k &&& (2 ^ (N % 64) - 1) else F k
theorem keepW_lt {N W : Nat} {F : Nat → Nat} (h : ∀ k, k < W → F k < 18446744073709551616) (k : Nat) (hk : k < W) : keepW N F k < 18446744073709551616 := by
  unfold keepW
  split
  · exact Nat.lt_of_le_of_lt Nat.and_le_left (h k hk)
  · exact h k hk
theorem keepW_bit {N : Nat} {F : Nat → Nat} {g : Nat → Bool} (h : ∀ j, j < 64 * ((N + 63) / 64) → (F (j / 64)).testBit (j % 64) = g j) (j : Nat) (hj : j < 64 * ((N + 63) / 64)) : (keepW N F (j / 64)).testBit (j % 64) = (decide (j < N) && g j) := by
  unfold keepW
  split
  · rename_i e
    rw [Nat.testBit_and, h j hj, Nat.testBit_two_pow_sub_one, Bool.and_comm]
    congr 1
    simp only [decide_eq_decide]
    omega
  · rename_i e
    rw [h j hj]
    by_cases hN : j < N
    · rw [decide_eq_true hN, Bool.true_and]
    · exfalso
      omega

theorem mask_wrap (s : Nat) (hs : s < 64) : IntKind.u64.wrap (IntKind.u64.wrap ((2 : Int) ^ s) - 1) = ((2 ^ s - 1 : Nat) : Int) := by
  have h2 : 2 ^ s < 18446744073709551616 := Nat.lt_of_lt_of_le (Nat.pow_lt_pow_right (by decide) hs) (by decide)
  have h0 := Nat.two_pow_pos s
  rw [pow_wrap s hs, IntKind.wrap_u64]
  generalize 2 ^ s = P at *
  omega

theorem clear_set {T N q s : Nat} {F : Nat → Nat} {w : World} (hr : w.rowIs T 24 (q + 1) (fun k => .int .u64 (F k : Nat))) {z : Int} (hz : z = ((F q &&& (2 ^ s - 1) : Nat) : Int)) (hq : q = N / 64) (hs : N % 64 = s) (h0 : s ≠ 0) :
    (w.setCell ⟨T, q, none⟩ (.int .u64 z)).rowIs T 24 (q + 1) (fun k => .int .u64 (keepW N F k : Nat)) := (hr.set q _).congr fun k _ => by
  unfold keepW
  by_cases e : k = q
  · rw [if_pos e, if_pos (by omega), e, hs, hz]
  · rw [if_neg e, if_neg (by omega)]

set_option maxRecDepth 100000 in
set_option maxHeartbeats 1600000 in
theorem pclear (n : Int) (T W B : Nat) (F : Nat → Nat) (w0 w : World) (hW : wdsVc3 n = W) (hr : w.rowIs T 24 W (fun k => .int .u64 (F k : Nat))) (hF : ∀ k, k < W → F k < 18446744073709551616) (hT : B ≤ T) (hb : Below B w0 w) :
    Calls Try.prog 44 #[.slice (some ⟨T, 0, none⟩) W W, .int .i64 n] w fun e w' => e = .returned (.tuple #[]) ∧ w'.rowIs T 24 W (fun k => .int .u64 (keepW (wid n) F k : Nat)) ∧ Below B w0 w' := by
  have HWD := Lib.hid (pwidth n w)
  have hN := wid_le n
  have hWN : W = (wid n + 63) / 64 := hW.symm
  clear hW
  generalize wid n = N at *
  go_enter Try.func44, Try.ntmps44
  go_wp2_with fail
  refine HWD.out.mono ?_
  rintro e w' ⟨rfl, rfl⟩
  clear HWD
  by_cases h0 : N % 64 = 0
  · have HR : Hid (w.rowIs T 24 W (fun k => .int .u64 (keepW N F k : Nat))) := hr.congr fun k _ => by unfold keepW; rw [if_neg (by omega)]
    have z0 : (N : Int) % 64 = 0 := by omega
    clear hWN hr
    go_wp2_with fail
    go_end0
    exact ⟨rfl, HR.out, hb⟩
  · obtain ⟨q, rfl⟩ : ∃ q, W = q + 1 := ⟨N / 64, by omega⟩
    obtain ⟨s, hs⟩ : ∃ s, N % 64 = s := ⟨_, rfl⟩
    have z0 : (N : Int) % 64 = (s : Int) := by omega
    have z1 : s ≠ 0 := by omega
    have z2 : s < 64 := by omega
    have t1 := hr.cell (i := q) (by omega)
    have t2 := hr.frozen q
    have hq := hF q (by omega)
    have hm2 : 2 ^ s - 1 < 18446744073709551616 := by
      have h2 : 2 ^ s < 18446744073709551616 := Nat.lt_of_lt_of_le (Nat.pow_lt_pow_right (by decide) z2) (by decide)
      omega
    have HS := Lib.hid (fun (w1 : World) (h1 : w1.rowIs T 24 (q + 1) (fun k => .int .u64 (F k : Nat))) (z : Int) (hz : z = ((F q &&& (2 ^ s - 1) : Nat) : Int)) => clear_set (N := N) h1 hz (by omega) hs (by omega))
    have HRR := Lib.hid hr
    have HBB := Lib.hid hb
    have HE := Lib.hid (u64_and_nat (F q) (2 ^ s - 1) hq hm2)
    have HM := Lib.hid (mask_wrap s z2)
    have hql : q ≤ 16384 := by omega
    have zq := IntWalk.i64_in (q : Int) (by omega)
    clear hWN hr h0 hs hm2 hb
    go_wp2_with fail
    go_region
    go_wp2_with fail
    go_end0
    exact ⟨rfl, HS.out _ HRR.out.drew _ (by rw [HM.out, HE.out]), (below_drew HBB.out).setCell hT _⟩

end Go.Proofs.Ytokgabijjgndgaa

namespace Go.Proofs.Ytokgabijjgndgaa
open Go.RowKit

theorem Try.infoU64sVp5 : (Try.prog.info? 24).map (·.size) = some 1 := by kernel_rfl

/-- A block that reads words, as a row that is told word by word. -/
theorem row_of_splice {w : World} {T W : Nat} {x : List Nat} (h : w.heap[T]? = some (.cells (splice (List.replicate W (.int .u64 0)) 0 (uv (x.take W))).toArray 24 (0, 0))) : w.rowIs T 24 W (fun k => .int .u64 (wd x k : Nat)) := by
  have hl : (uv (x.take W)).length ≤ W := by rw [uv_length, List.length_take]; omega
  refine ⟨_, h, ?_, fun i hi => ?_⟩
  · rw [List.size_toArray, length_splice _ _ _ (by simp; omega), List.length_replicate]
  · rw [List.getElem?_toArray]
    unfold splice
    rw [List.take_zero, List.nil_append, Nat.zero_add]
    show _ = some (Value.int .u64 (wd x i : Nat))
    by_cases hx : i < x.length
    · have hu : i < (uv (x.take W)).length := by rw [uv_length, List.length_take]; omega
      rw [List.getElem?_append_left hu, ← wd_in hx]
      unfold uv
      rw [List.getElem?_map, List.getElem?_take, if_pos hi, List.getElem?_eq_getElem hx]
      rfl
    · rw [List.getElem?_append_right (by rw [uv_length, List.length_take]; omega), ← wd_out (x := x) (k := i) (by omega), List.getElem?_drop, List.getElem?_replicate, if_pos (by rw [uv_length, List.length_take]; omega)]
      rfl

theorem Row.ofTake {w : World} {A : Option Addr} {x : List Nat} {W : Nat} (h : Row w A (uv x)) (hp : 0 < (uv (x.take W)).length) : ∃ ad, A = some ad ∧ ∀ j v, (uv (x.take W))[j]? = some v → w.cell? (ad.add j) = some v := by
  have e : uv (x.take W) = (uv x).take W := by unfold uv; rw [List.map_take]
  rw [e] at hp ⊢
  obtain ⟨g, o, rfl, hc⟩ := (h.take W) (by intro e; rw [e] at hp; simp at hp)
  exact ⟨_, rfl, fun j v hv => by rw [Addr.add_lit]; exact hc j v hv⟩

theorem blk_newVp5 (w : World) (o : Obj) : (w.alloc o).heap[w.heap.size]? = some o := by
  show (w.heap.push o)[w.heap.size]? = _
  simp

set_option maxRecDepth 100000 in
set_option maxHeartbeats 1600000 in
theorem pfit : Op1OK 24 bt := by
  intro A m c x n w hm hb hc hcm hI hr hx
  obtain ⟨i0, hi, hz0, hz1, hz2⟩ := info_parts Try.infoU64Vc2
  have HWS := Lib.hid (pwords n w)
  have hWl := wds_le n
  have HM := Lib.hid hm
  obtain ⟨W, hW⟩ : ∃ W, wdsVc3 n = W := ⟨_, rfl⟩
  have HW := Lib.hid hW
  rw [hW] at hWl HWS ⊢
  clear hW hm
  have HF := Lib.hid (fun (T : Nat) (w1 : World) (h1 : w1.rowIs T 24 W (fun k => .int .u64 (keepW (wid n) (wd x) k : Nat))) => made_of (w := w) (wr := w1) (T := T) (W := W) (F := keepW (wid n) (wd x)) (g := fun j => decide (j < wid n) && bt x j) (keepW_lt fun k _ => wd_lt hx k) (fun j hj => keepW_bit (fun j _ => rfl) j (by rw [← HW.out] at hj; exact hj)) h1)
  go_enter Try.func24, Try.ntmps24
  go_wp2_with fail
  refine HWS.out.mono ?_
  rintro e w' ⟨rfl, rfl⟩
  clear HWS
  go_upto_region 2 with (at_make; refine wpList_make_row _ rfl _ _ 22 rfl 24 i0 (.int .u64 0) Try.underlying22 hi hz0 hz1 rfl .i64 .i64 W rfl rfl (by rw [hz2]; omega) (by omega) ?_)
  have hb1 : Below w.heap.size w (w.alloc (.cells (madeCells #[.int .u64 0] W) 24)) := (Below.refl _ _).alloc (Nat.le_refl _) _
  have HH : Hid ((w.alloc (.cells (madeCells #[.int .u64 0] W) 24)).heap[w.heap.size]? = some (.cells (List.replicate W (.int .u64 0)).toArray 24 (0, 0))) := by
    show _ = _
    rw [← toList_madeCells_one, Array.toArray_toList]
    exact blk_newVp5 w _
  have r1 := hr.below hb1
  generalize w.alloc (.cells (madeCells #[.int .u64 0] W) 24) = w0 at *
  obtain ⟨cur, hcur⟩ : ∃ cur : List Value, List.replicate W (.int .u64 0) = cur := ⟨_, rfl⟩
  obtain ⟨cs, hcs⟩ : ∃ cs : List Value, uv (x.take W) = cs := ⟨_, rfl⟩
  have HC := Lib.hid hcur
  have HS := Lib.hid hcs
  rw [hcur] at HH
  have G1 : Hid (cs.length = Nat.min m W) := by show _ = _; rw [← hcs, uv_length, List.length_take, HM.out]; exact Nat.min_comm _ _
  have G2 : Hid (0 < cs.length → ∃ ad, A = some ad ∧ ∀ j v, cs[j]? = some v → w0.cell? (ad.add j) = some v) := by show _ → _; rw [← hcs]; exact r1.ofTake
  have G3 : Hid (0 + cs.length ≤ cur.length) := by show _ ≤ _; rw [← hcs, ← hcur, uv_length, List.length_take, List.length_replicate]; omega
  have G4 : Hid (∀ v ∈ cs, v.oneCell' = true) := by show ∀ v ∈ cs, _; rw [← hcs]; exact uv_one _
  clear hcur hcs
  go_wp2_with (with_reducible refine wpList_copy_splice rfl (.tmp 9) (.tmp 10) 22 22 rfl 24 Try.underlying22 Try.infoU64sVp5 (some ⟨w.heap.size, 0, none⟩) A W W m c rfl rfl w.heap.size 0 cur 24 HH.out cs G1.out (fun hp => ⟨rfl, G2.out hp⟩) G3.out G4.out w.heap.size w hb1 (Nat.le_refl _) ?_)
  intro w2 HG hb2
  rw [← HS.out, ← HC.out] at HG
  have hrow := row_of_splice HG.out
  clear HG HH r1 hb1 HS HC
  go_wp2_with fail
  refine (pclear n w.heap.size W w.heap.size (wd x) w w2 HW.out hrow (fun k _ => wd_lt hx k) (Nat.le_refl _) hb2).mono ?_
  rintro e w3 ⟨rfl, h3, hb3⟩
  have HQ := Lib.hid (HF.out _ w3 h3 (Nat.le_refl _) (by unfold maxLen; omega) hb3)
  clear h3 hb3 hrow hb2
  go_wp2_with fail
  go_ret
  exact HQ.out

end Go.Proofs.Ytokgabijjgndgaa

namespace Go.Proofs.Ytokgabijjgndgaa
open Go.RowKit

def notW (x : List Nat) (k : Nat) : Nat := 18446744073709551615 - wd x k
theorem not_word (u : Nat) (hu : u < 18446744073709551616) : bits .xor .u64 18446744073709551615 (u : Int) = ((18446744073709551615 - u : Nat) : Int) := by
  have h := u64_xor_nat 18446744073709551615 u (by decide) hu
  rw [show (((18446744073709551615 : Nat)) : Int) = 18446744073709551615 from rfl] at h
  rw [h]
  congr 1
  apply Nat.eq_of_testBit_eq
  intro i
  rw [Nat.testBit_xor, show 18446744073709551615 - u = 2 ^ 64 - (u + 1) by omega, Nat.testBit_two_pow_sub_succ hu, show (18446744073709551615 : Nat) = 2 ^ 64 - 1 from rfl, Nat.testBit_two_pow_sub_one]
  by_cases hi : i < 64
  · rw [decide_eq_true hi]
    cases u.testBit i <;> rfl
  · rw [decide_eq_false hi, Nat.testBit_lt_two_pow (Nat.lt_of_lt_of_le hu (show 2 ^ 64 ≤ 2 ^ i from Nat.pow_le_pow_right (by decide) (by omega)))]
    rfl
theorem notW_bit {x : List Nat} (hx : Wd x) (j : Nat) : (notW x (j / 64)).testBit (j % 64) = !bt x j := by
  have h := wd_lt hx (j / 64)
  unfold notW
  rw [show 18446744073709551615 - wd x (j / 64) = 2 ^ 64 - (wd x (j / 64) + 1) by omega, Nat.testBit_two_pow_sub_succ h, decide_eq_true (Nat.mod_lt _ (by decide)), Bool.true_and]
  rfl

set_option maxRecDepth 100000 in
set_option maxHeartbeats 1600000 in
theorem pnot : Op1OK 30 (fun x j => !bt x j) := by
  intro A m c x n w hm hb hc hcm hI hr hx
  obtain ⟨i0, hi, hz0, hz1, hz2⟩ := info_parts Try.infoU64Vc2
  have HWS := Lib.hid (pwords n w)
  have hWl := wds_le n
  have HM := Lib.hid hm
  obtain ⟨W, hW⟩ : ∃ W, wdsVc3 n = W := ⟨_, rfl⟩
  have HW := Lib.hid hW
  rw [hW] at hWl HWS ⊢
  clear hW hm
  have HF := Lib.hid (fun (T : Nat) (w1 : World) (h1 : w1.rowIs T 24 W (fun k => .int .u64 (keepW (wid n) (notW x) k : Nat))) => made_of (w := w) (wr := w1) (T := T) (W := W) (F := keepW (wid n) (notW x)) (g := fun j => decide (j < wid n) && !bt x j) (keepW_lt fun k _ => by unfold notW; omega) (fun j hj => keepW_bit (fun j _ => notW_bit hx j) j (by rw [← HW.out] at hj; exact hj)) h1)
  go_enter Try.func30, Try.ntmps30
  go_wp2_with fail
  refine HWS.out.mono ?_
  rintro e w' ⟨rfl, rfl⟩
  clear HWS
  go_upto_region 2 with (at_make; refine wpList_make_row _ rfl _ _ 22 rfl 24 i0 (.int .u64 0) Try.underlying22 hi hz0 hz1 rfl .i64 .i64 W rfl rfl (by rw [hz2]; omega) (by omega) ?_)
  have hT := World.rowIs_made w (.int .u64 0) W 24
  have hB : Below w.heap.size w (w.alloc (.cells (madeCells #[.int .u64 0] W) 24)) := (Below.refl _ _).alloc (Nat.le_refl _) _
  generalize w.alloc (.cells (madeCells #[.int .u64 0] W) 24) = w0 at *
  go_wp2_with fail
  go_loopw [12] (fun i wr => WRel W (notW x) w i wr) (fun i _ => W - (intOf i).toNat)
  case atStart => exact wrel_start hT hB
  case round =>
    clear hT hB
    obtain ⟨k, hk, rfl, hrow, hbw⟩ := hrel
    by_cases hlt : k < W
    · have t1 := hrow.cell hlt
      have t2 := hrow.frozen k
      have R := wrel_next hlt hrow hbw (not_word _ (wd_lt hx k))
      have rx := hr.below hbw
      clear hrow hbw HF
      go_wp2_with fail
      refine (pword A m c k x wr HM.out rx).mono ?_
      rintro e w2 ⟨rfl, rfl⟩
      generalize wd x k = u at *
      go_wp2_with fail
      go_roundw
      case rel => first | exact R | ((repeat apply Exists.intro); exact ⟨R, rfl⟩)
      case measure => simp [intOf]; omega
    · have hrow' := hrow.congr (g := fun j => .int .u64 (notW x j : Nat)) fun i h => by rw [if_pos (by omega)]
      clear hrow
      go_wp2_with fail
      refine (pclear n w.heap.size W w.heap.size (notW x) w wr HW.out hrow' (fun k _ => by unfold notW; omega) (Nat.le_refl _) hbw).mono ?_
      rintro e w3 ⟨rfl, h3, hb3⟩
      have HQ := Lib.hid (HF.out _ w3 h3 (Nat.le_refl _) (by unfold maxLen; omega) hb3)
      clear h3 hb3 hrow' hbw HF
      go_wp2_with fail
      go_ret
      exact HQ.out

theorem ponesOK : OnesOK := by
  intro n w hI
  have h := pnot none 0 0 [] n w rfl (by decide) (by decide) (by decide) hI (Row.nil _ _) (fun u hu => by simp at hu)
  go_enter Try.func26, Try.ntmps26
  go_wp2_with fail
  refine h.mono ?_
  rintro e w1 ⟨v, x, rfl, h1, h2, h3, h4, h5⟩
  have HQ : Hid (MadeV (wdsVc3 n) (fun j => decide (j < wid n) && true) w (.returned v) w1) := ⟨v, x, rfl, h1, h2, fun j => by rw [h3]; simp [bt], h4, h5⟩
  clear h1 h2 h3 h4 h5 h
  go_wp2_with fail
  go_ret
  exact HQ.out

end Go.Proofs.Ytokgabijjgndgaa

namespace Go.Proofs.Ytokgabijjgndgaa
open Go.RowKit

def p1 (m x : Nat) : Nat := (x / 2 &&& m) + (x &&& m)
def p2 (m x : Nat) : Nat := (x / 4 &&& m) + (x &&& m)
def p3 (m x : Nat) : Nat := (x / 16 + x) &&& m

theorem and_split (a b c d : Nat) (ha : a < 256) (hc : c < 256) : (a + 256 * b) &&& (c + 256 * d) = (a &&& c) + 256 * (b &&& d) := by
  have h1 : a &&& c < 256 := Nat.lt_of_le_of_lt Nat.and_le_left ha
  have e1 := Nat.and_mod_two_pow (a := a + 256 * b) (b := c + 256 * d) (n := 8)
  have e2 := Nat.and_div_two_pow (a := a + 256 * b) (b := c + 256 * d) (n := 8)
  rw [show (2 : Nat) ^ 8 = 256 from rfl] at e1 e2
  rw [show (a + 256 * b) % 256 = a by omega, show (c + 256 * d) % 256 = c by omega] at e1
  rw [show (a + 256 * b) / 256 = b by omega, show (c + 256 * d) / 256 = d by omega] at e2
  omega

theorem d1 : ∀ r, r < 2 → ∀ d, d < 256 → (d / 2 + 128 * r) &&& 85 = d / 2 &&& 85 := by decide +kernel
theorem d2 : ∀ r, r < 4 → ∀ d, d < 256 → (d / 4 + 64 * r) &&& 51 = d / 4 &&& 51 := by decide +kernel
theorem p1_split (d q m : Nat) (hd : d < 256) : p1 (85 + 256 * m) (d + 256 * q) = p1 85 d + 256 * p1 m q := by
  unfold p1
  rw [show (d + 256 * q) / 2 = (d / 2 + 128 * (q % 2)) + 256 * (q / 2) by omega, and_split _ _ _ _ (by omega) (by decide), and_split d q 85 m hd (by decide), d1 _ (by omega) d hd]
  omega
theorem p2_split (d q m : Nat) (hd : d < 256) : p2 (51 + 256 * m) (d + 256 * q) = p2 51 d + 256 * p2 m q := by
  unfold p2
  rw [show (d + 256 * q) / 4 = (d / 4 + 64 * (q % 4)) + 256 * (q / 4) by omega, and_split _ _ _ _ (by omega) (by decide), and_split d q 51 m hd (by decide), d2 _ (by omega) d hd]
  omega
theorem l1 : ∀ d, d < 256 → p1 85 d < 256 := by decide +kernel
theorem l2 : ∀ d, d < 256 → p2 51 (p1 85 d) < 80 ∧ p2 51 (p1 85 d) % 16 ≤ 4 := by decide +kernel
/-- The word's bytes of pairs of pairs. -/
def pp (m1 m2 x : Nat) : Nat := p2 m2 (p1 m1 x)
theorem pp_split (d q m1 m2 : Nat) (hd : d < 256) : pp (85 + 256 * m1) (51 + 256 * m2) (d + 256 * q) = pp 85 51 d + 256 * pp m1 m2 q := by
  unfold pp
  rw [p1_split d q m1 hd, p2_split _ _ _ (l1 d hd)]
theorem d3 : ∀ r, r ≤ 4 → ∀ d, d < 80 → d % 16 ≤ 4 → (d / 16 + d + 16 * r) &&& 15 = (d / 16 + d) &&& 15 ∧ d / 16 + d + 16 * r < 256 := by decide +kernel
theorem p3_split (d q m : Nat) (hd : d < 80) (hd' : d % 16 ≤ 4) (hq : q % 16 ≤ 4) : p3 (15 + 256 * m) (d + 256 * q) = p3 15 d + 256 * p3 m q := by
  obtain ⟨e1, e2⟩ := d3 (q % 16) hq d hd hd'
  unfold p3
  rw [show (d + 256 * q) / 16 + (d + 256 * q) = (d / 16 + d + 16 * (q % 16)) + 256 * (q / 16 + q) by omega, and_split _ _ _ _ e2 (by decide), e1]

theorem cnt_split (d q n : Nat) (hd : d < 256) : cnt (d + 256 * q).testBit (8 + n) = cnt d.testBit 8 + cnt q.testBit n := by
  induction n with
  | zero =>
    have h : ∀ j, j ≤ 8 → cnt (d + 256 * q).testBit j = cnt d.testBit j := by
      intro j hj
      induction j with
      | zero => rfl
      | succ j ih =>
        have e : (d + 256 * q).testBit j = d.testBit j := by
          rw [Nat.add_comm, show 256 * q = 2 ^ 8 * q from rfl, Nat.testBit_two_pow_mul_add _ hd, if_pos (by omega)]
        rw [cnt, cnt, ih (by omega), e]
    rw [Nat.add_zero, h 8 (Nat.le_refl _)]
    rfl
  | succ n ih =>
    have e : (d + 256 * q).testBit (8 + n) = q.testBit n := by
      rw [Nat.add_comm, show 256 * q = 2 ^ 8 * q from rfl, Nat.testBit_two_pow_mul_add _ hd, if_neg (by omega), show 8 + n - 8 = n by omega]
    show cnt (d + 256 * q).testBit (8 + n) + (if (d + 256 * q).testBit (8 + n) = true then 1 else 0) = cnt d.testBit 8 + (cnt q.testBit n + (if q.testBit n = true then 1 else 0))
    rw [ih, e, Nat.add_assoc]
theorem cnt8 : ∀ d, d < 256 → cnt d.testBit 8 = p3 15 (pp 85 51 d) := by decide +kernel

/-- Masks of n bytes. -/
def mk (a : Nat) : Nat → Nat
  | 0 => 0
  | n + 1 => a + 256 * mk a n
/-- The bytes' counts, one byte each. -/
def bytesC : Nat → Nat → Nat
  | 0, _ => 0
  | n + 1, x => cnt (x % 256).testBit 8 + 256 * bytesC n (x / 256)
theorem pp_mod (m1 m2 q : Nat) (n : Nat) (h1 : m1 = mk 85 n) (h2 : m2 = mk 51 n) : pp m1 m2 q % 16 ≤ 4 := by
  cases n with
  | zero => subst h1; subst h2; simp [mk, pp, p1, p2]
  | succ n =>
    subst h1; subst h2
    rw [mk, mk, show q = q % 256 + 256 * (q / 256) by omega, pp_split _ _ _ _ (by omega)]
    have := (l2 (q % 256) (by omega)).2
    unfold pp at *
    omega
theorem pc_bytes : ∀ n x, p3 (mk 15 n) (pp (mk 85 n) (mk 51 n) x) = bytesC n x
  | 0, x => by simp [mk, p3, bytesC]
  | n + 1, x => by
    have h : pp 85 51 (x % 256) < 80 ∧ pp 85 51 (x % 256) % 16 ≤ 4 := l2 (x % 256) (by omega)
    rw [mk, mk, mk, bytesC, show pp (85 + 256 * mk 85 n) (51 + 256 * mk 51 n) x = pp (85 + 256 * mk 85 n) (51 + 256 * mk 51 n) (x % 256 + 256 * (x / 256)) by rw [show x % 256 + 256 * (x / 256) = x by omega], pp_split _ _ _ _ (by omega), p3_split _ _ _ h.1 h.2 (pp_mod _ _ _ n rfl rfl), pc_bytes n (x / 256), cnt8 _ (by omega)]
theorem cnt_bytes (n : Nat) : ∀ x, cnt x.testBit (8 + n) = cnt (x % 256).testBit 8 + cnt (x / 256).testBit n := fun x => by
  have := cnt_split (x % 256) (x / 256) n (by omega)
  rwa [show x % 256 + 256 * (x / 256) = x by omega] at this
theorem cnt_top (x : Nat) : cnt (x % 256).testBit 8 ≤ 8 := cnt_leVc5 _ 8

theorem step8 {c B D : Nat} (hc : c < 256) (h : B = c + 256 * D) : B / 256 = D := by omega
theorem step16 {c d B D E : Nat} (hc : c < 256) (hd : d < 256) (h : B = c + 256 * D) (h' : D = d + 256 * E) : B / 65536 = E := by omega
theorem step32 {B D E F G c d e f : Nat} (hc : c < 256) (hd : d < 256) (he : e < 256) (hf : f < 256) (h : B = c + 256 * D) (h1 : D = d + 256 * E) (h2 : E = e + 256 * F) (h3 : F = f + 256 * G) : B / 4294967296 = G := by
  have a1 : D / 256 = E := step8 hd h1
  have a2 : E / 256 = F := step8 he h2
  have a3 : F / 256 = G := step8 hf h3
  have a0 : B / 256 = D := step8 hc h
  rw [show (4294967296 : Nat) = 256 * 256 * 256 * 256 from rfl, ← Nat.div_div_eq_div_mul, ← Nat.div_div_eq_div_mul, ← Nat.div_div_eq_div_mul, a0, a1, a2, a3]
theorem fold8 (c0 c1 c2 c3 c4 c5 c6 c7 B B1 B2 B3 B4 B5 B6 B7 : Nat) (h0 : c0 ≤ 8) (h1 : c1 ≤ 8) (h2 : c2 ≤ 8) (h3 : c3 ≤ 8) (h4 : c4 ≤ 8) (h5 : c5 ≤ 8) (h6 : c6 ≤ 8) (h7 : c7 ≤ 8)
    (g0 : B = c0 + 256 * B1) (g1 : B1 = c1 + 256 * B2) (g2 : B2 = c2 + 256 * B3) (g3 : B3 = c3 + 256 * B4) (g4 : B4 = c4 + 256 * B5) (g5 : B5 = c5 + 256 * B6) (g6 : B6 = c6 + 256 * B7) (g7 : B7 = c7) :
    B < 1000000000000000000 ∧ B + B / 256 < 1000000000000000000 ∧ (B + B / 256) + (B + B / 256) / 65536 < 1000000000000000000 ∧ ((B + B / 256) + (B + B / 256) / 65536) + ((B + B / 256) + (B + B / 256) / 65536) / 4294967296 < 2000000000000000000 ∧ (((B + B / 256) + (B + B / 256) / 65536) + ((B + B / 256) + (B + B / 256) / 65536) / 4294967296) % 128 = c0 + (c1 + (c2 + (c3 + (c4 + (c5 + (c6 + c7)))))) := by
  have hB7 : B7 ≤ 8 := by omega
  have hB6 : B6 ≤ 2056 := by omega
  have hB5 : B5 ≤ 526344 := by omega
  have hB4 : B4 ≤ 134744072 := by omega
  have hB3 : B3 ≤ 34494482440 := by omega
  have hB2 : B2 ≤ 8830587504648 := by omega
  have hB1 : B1 ≤ 2260630401189896 := by omega
  have hB : B ≤ 578721382704613384 := by omega
  have e1 : B / 256 = B1 := step8 (by omega) g0
  obtain ⟨A0, a0⟩ : ∃ A, A = B + B1 := ⟨_, rfl⟩
  obtain ⟨A1, a1⟩ : ∃ A, A = B1 + B2 := ⟨_, rfl⟩
  obtain ⟨A2, a2⟩ : ∃ A, A = B2 + B3 := ⟨_, rfl⟩
  obtain ⟨A3, a3⟩ : ∃ A, A = B3 + B4 := ⟨_, rfl⟩
  obtain ⟨A4, a4⟩ : ∃ A, A = B4 + B5 := ⟨_, rfl⟩
  obtain ⟨A5, a5⟩ : ∃ A, A = B5 + B6 := ⟨_, rfl⟩
  obtain ⟨A6, a6⟩ : ∃ A, A = B6 + B7 := ⟨_, rfl⟩
  have k0 : A0 = (c0 + c1) + 256 * A1 := by omega
  have k1 : A1 = (c1 + c2) + 256 * A2 := by omega
  have k2 : A2 = (c2 + c3) + 256 * A3 := by omega
  have k3 : A3 = (c3 + c4) + 256 * A4 := by omega
  have k4 : A4 = (c4 + c5) + 256 * A5 := by omega
  have k5 : A5 = (c5 + c6) + 256 * A6 := by omega
  have k6 : A6 = (c6 + c7) + 256 * B7 := by omega
  have e2 : A0 / 65536 = A2 := step16 (by omega) (by omega) k0 k1
  have n0 : A0 + A2 = (c0 + c1 + c2 + c3) + 256 * (A1 + A3) := by omega
  have n1 : A1 + A3 = (c1 + c2 + c3 + c4) + 256 * (A2 + A4) := by omega
  have n2 : A2 + A4 = (c2 + c3 + c4 + c5) + 256 * (A3 + A5) := by omega
  have n3 : A3 + A5 = (c3 + c4 + c5 + c6) + 256 * (A4 + A6) := by omega
  have n4 : A4 + A6 = (c4 + c5 + c6 + c7) + 256 * (A5 + B7) := by omega
  have e3 : (A0 + A2) / 4294967296 = A4 + A6 := step32 (by omega) (by omega) (by omega) (by omega) n0 n1 n2 n3
  rw [e1, ← a0, e2, e3]
  refine ⟨by omega, by omega, by omega, by omega, ?_⟩
  rw [n0, n4]
  generalize A1 + A3 = X
  generalize A5 + B7 = Y
  clear n0 n1 n2 n3 n4 k0 k1 k2 k3 k4 k5 k6 a0 a1 a2 a3 a4 a5 a6 e1 e2 e3 hB hB1 hB2 hB3 hB4 hB5 hB6 hB7 g0 g1 g2 g3 g4 g5 g6 g7
  omega
/-- The last steps add the eight bytes. -/
theorem pc_fold (x B : Nat) (hB : bytesC 8 x = B) :
    B < 1000000000000000000 ∧ B + B / 256 < 1000000000000000000 ∧ (B + B / 256) + (B + B / 256) / 65536 < 1000000000000000000 ∧ ((B + B / 256) + (B + B / 256) / 65536) + ((B + B / 256) + (B + B / 256) / 65536) / 4294967296 < 2000000000000000000 ∧ (((B + B / 256) + (B + B / 256) / 65536) + ((B + B / 256) + (B + B / 256) / 65536) / 4294967296) % 128 = cnt x.testBit 64 := by
  obtain ⟨x1, h1⟩ : ∃ y, y = x / 256 := ⟨_, rfl⟩
  obtain ⟨x2, h2⟩ : ∃ y, y = x1 / 256 := ⟨_, rfl⟩
  obtain ⟨x3, h3⟩ : ∃ y, y = x2 / 256 := ⟨_, rfl⟩
  obtain ⟨x4, h4⟩ : ∃ y, y = x3 / 256 := ⟨_, rfl⟩
  obtain ⟨x5, h5⟩ : ∃ y, y = x4 / 256 := ⟨_, rfl⟩
  obtain ⟨x6, h6⟩ : ∃ y, y = x5 / 256 := ⟨_, rfl⟩
  obtain ⟨x7, h7⟩ : ∃ y, y = x6 / 256 := ⟨_, rfl⟩
  have e0 : cnt x.testBit 64 = cnt (x % 256).testBit 8 + cnt x1.testBit 56 := h1 ▸ cnt_bytes 56 x
  have e1 : cnt x1.testBit 56 = cnt (x1 % 256).testBit 8 + cnt x2.testBit 48 := h2 ▸ cnt_bytes 48 x1
  have e2 : cnt x2.testBit 48 = cnt (x2 % 256).testBit 8 + cnt x3.testBit 40 := h3 ▸ cnt_bytes 40 x2
  have e3 : cnt x3.testBit 40 = cnt (x3 % 256).testBit 8 + cnt x4.testBit 32 := h4 ▸ cnt_bytes 32 x3
  have e4 : cnt x4.testBit 32 = cnt (x4 % 256).testBit 8 + cnt x5.testBit 24 := h5 ▸ cnt_bytes 24 x4
  have e5 : cnt x5.testBit 24 = cnt (x5 % 256).testBit 8 + cnt x6.testBit 16 := h6 ▸ cnt_bytes 16 x5
  have e6 : cnt x6.testBit 16 = cnt (x6 % 256).testBit 8 + cnt x7.testBit 8 := h7 ▸ cnt_bytes 8 x6
  have e7 : cnt x7.testBit 8 = cnt (x7 % 256).testBit 8 + cnt (x7 / 256).testBit 0 := cnt_bytes 0 x7
  have f0 : bytesC 8 x = cnt (x % 256).testBit 8 + 256 * bytesC 7 x1 := h1 ▸ rfl
  have f1 : bytesC 7 x1 = cnt (x1 % 256).testBit 8 + 256 * bytesC 6 x2 := h2 ▸ rfl
  have f2 : bytesC 6 x2 = cnt (x2 % 256).testBit 8 + 256 * bytesC 5 x3 := h3 ▸ rfl
  have f3 : bytesC 5 x3 = cnt (x3 % 256).testBit 8 + 256 * bytesC 4 x4 := h4 ▸ rfl
  have f4 : bytesC 4 x4 = cnt (x4 % 256).testBit 8 + 256 * bytesC 3 x5 := h5 ▸ rfl
  have f5 : bytesC 3 x5 = cnt (x5 % 256).testBit 8 + 256 * bytesC 2 x6 := h6 ▸ rfl
  have f6 : bytesC 2 x6 = cnt (x6 % 256).testBit 8 + 256 * bytesC 1 x7 := h7 ▸ rfl
  have f7 : bytesC 1 x7 = cnt (x7 % 256).testBit 8 := by rw [bytesC, bytesC, Nat.mul_zero, Nat.add_zero]
  have z : cnt (x7 / 256).testBit 0 = 0 := rfl
  rw [z, Nat.add_zero] at e7
  have h := fold8 _ _ _ _ _ _ _ _ _ _ _ _ _ _ _ _ (cnt_top x) (cnt_top x1) (cnt_top x2) (cnt_top x3) (cnt_top x4) (cnt_top x5) (cnt_top x6) (cnt_top x7) f0 f1 f2 f3 f4 f5 f6 f7
  rw [hB] at h
  rw [e0, e1, e2, e3, e4, e5, e6, e7]
  exact h

end Go.Proofs.Ytokgabijjgndgaa

namespace Go.Proofs.Ytokgabijjgndgaa
open Go.RowKit

theorem and64 (a m : Nat) (ha : a < 18446744073709551616) (hm : m < 18446744073709551616) (M : Int) (hM : M = (m : Int)) : bits .and .u64 (a : Int) M = ((a &&& m : Nat) : Int) := by
  rw [hM]; exact u64_and_nat a m ha hm
theorem wrap64N (a : Nat) (ha : a < 18446744073709551616) : IntKind.u64.wrap (a : Int) = (a : Int) := by rw [IntKind.wrap_u64]; omega

theorem pc1 (u : Nat) (hu : u < 18446744073709551616) : IntKind.u64.wrap (bits .and .u64 ((u : Int) / 2) 6148914691236517205 + bits .and .u64 (u : Int) 6148914691236517205) = (p1 6148914691236517205 u : Nat) ∧ p1 6148914691236517205 u ≤ 12297829382473034410 := by
  have a1 : u / 2 &&& 6148914691236517205 ≤ 6148914691236517205 := Nat.and_le_right
  have a2 : u &&& 6148914691236517205 ≤ 6148914691236517205 := Nat.and_le_right
  rw [show (u : Int) / 2 = ((u / 2 : Nat) : Int) by omega, and64 (u / 2) 6148914691236517205 (by omega) (by decide) (6148914691236517205 : Int) rfl, and64 u 6148914691236517205 hu (by decide) (6148914691236517205 : Int) rfl, ← Int.natCast_add]
  unfold p1
  exact ⟨wrap64N _ (by omega), by omega⟩
theorem pc2 (u : Nat) (hu : u < 18446744073709551616) : IntKind.u64.wrap (bits .and .u64 ((u : Int) / 4) 3689348814741910323 + bits .and .u64 (u : Int) 3689348814741910323) = (p2 3689348814741910323 u : Nat) ∧ p2 3689348814741910323 u ≤ 7378697629483820646 := by
  have a1 : u / 4 &&& 3689348814741910323 ≤ 3689348814741910323 := Nat.and_le_right
  have a2 : u &&& 3689348814741910323 ≤ 3689348814741910323 := Nat.and_le_right
  rw [show (u : Int) / 4 = ((u / 4 : Nat) : Int) by omega, and64 (u / 4) 3689348814741910323 (by omega) (by decide) (3689348814741910323 : Int) rfl, and64 u 3689348814741910323 hu (by decide) (3689348814741910323 : Int) rfl, ← Int.natCast_add]
  unfold p2
  exact ⟨wrap64N _ (by omega), by omega⟩
theorem pc3 (u : Nat) (hu : u ≤ 7378697629483820646) : bits .and .u64 (IntKind.u64.wrap ((u : Int) / 16 + (u : Int))) 1085102592571150095 = (p3 1085102592571150095 u : Nat) := by
  rw [show (u : Int) / 16 + (u : Int) = ((u / 16 + u : Nat) : Int) by omega, wrap64N _ (by omega), and64 (u / 16 + u) 1085102592571150095 (by omega) (by decide) (1085102592571150095 : Int) rfl]
  rfl
theorem pc_sum (u d : Nat) (D : Int) (hD : D = (d : Int)) (h : u + u / d < 18446744073709551616) : IntKind.u64.wrap ((u : Int) + (u : Int) / D) = ((u + u / d : Nat) : Int) := by
  rw [hD, ← Int.natCast_ediv, ← Int.natCast_add]
  exact wrap64N _ h
theorem and127 (c : Nat) (hc : c < 9223372036854775808) : bits .and .i64 (wrap64 (c : Int)) 127 = ((c % 128 : Nat) : Int) := by
  have e : wrap64 (c : Int) = (c : Int) := IntWalk.wrap64_in _ (by omega)
  rw [e]
  show IntKind.i64.wrap ((BitVec.ofInt 64 (c : Int) &&& BitVec.ofInt 64 127).toNat : Int) = _
  have h1 : (BitVec.ofInt 64 (127 : Int)).toNat = 127 := by decide
  rw [BitVec.toNat_and, ofInt_u64 c (by omega), h1, show (127 : Nat) = 2 ^ 7 - 1 from rfl, Nat.and_two_pow_sub_one_eq_mod]
  exact IntWalk.i64_in _ (by omega)

set_option maxRecDepth 100000 in
set_option maxHeartbeats 1600000 in
theorem onesCount (u : Nat) (w : World) (hu : u < 18446744073709551616) :
    Calls Try.prog 48 #[.int .u64 (u : Int)] w fun e w' => e = .returned (.int .i64 (cnt u.testBit 64 : Nat)) ∧ w = w' := by
  obtain ⟨H1, b1⟩ := pc1 u hu
  obtain ⟨x1, e1⟩ : ∃ y, p1 6148914691236517205 u = y := ⟨_, rfl⟩
  rw [e1] at H1 b1
  obtain ⟨H2, b2⟩ := pc2 x1 (by omega)
  obtain ⟨x2, e2⟩ : ∃ y, p2 3689348814741910323 x1 = y := ⟨_, rfl⟩
  rw [e2] at H2 b2
  have H3 := pc3 x2 b2
  obtain ⟨B, e3⟩ : ∃ y, p3 1085102592571150095 x2 = y := ⟨_, rfl⟩
  rw [e3] at H3
  have hB : bytesC 8 u = B := by
    rw [← pc_bytes 8 u, ← e3, ← e2, ← e1]
    rfl
  obtain ⟨c1, c2, c3, c4, c5⟩ := pc_fold u B hB
  have H4 := pc_sum B 256 256 rfl (by omega)
  obtain ⟨x4, e4⟩ : ∃ y, B + B / 256 = y := ⟨_, rfl⟩
  rw [e4] at H4 c2 c3 c4 c5
  have H5 := pc_sum x4 65536 65536 rfl (by omega)
  obtain ⟨x5, e5⟩ : ∃ y, x4 + x4 / 65536 = y := ⟨_, rfl⟩
  rw [e5] at H5 c3 c4 c5
  have H6 := pc_sum x5 4294967296 4294967296 rfl (by omega)
  obtain ⟨x6, e6⟩ : ∃ y, x5 + x5 / 4294967296 = y := ⟨_, rfl⟩
  rw [e6] at H6 c4 c5
  have H7 := and127 x6 (by omega)
  rw [c5] at H7
  have K1 := Lib.hid H1
  have K2 := Lib.hid H2
  have K3 := Lib.hid H3
  have K4 := Lib.hid H4
  have K5 := Lib.hid H5
  have K6 := Lib.hid H6
  have K7 := Lib.hid H7
  clear H1 H2 H3 H4 H5 H6 H7 e1 e2 e3 e4 e5 e6 hB c1 c2 c3 c4 c5 b1 b2 hu
  go_enter Try.func48, Try.ntmps48
  go_wp2_with fail
  go_ret
  refine ⟨?_, rfl⟩
  simp only [K1.out, K2.out, K3.out, K4.out, K5.out, K6.out]
  exact ret_int K7.out

theorem cnt_add (g : Nat → Bool) (a : Nat) : ∀ b, cnt g (a + b) = cnt g a + cnt (fun j => g (a + j)) b
  | 0 => rfl
  | b + 1 => by
    show cnt g (a + b) + (if g (a + b) = true then 1 else 0) = cnt g a + (cnt (fun j => g (a + j)) b + (if g (a + b) = true then 1 else 0))
    rw [cnt_add g a b, Nat.add_assoc]
theorem cnt_congr {g h : Nat → Bool} : ∀ n, (∀ j, j < n → g j = h j) → cnt g n = cnt h n
  | 0, _ => rfl
  | n + 1, e => by rw [cnt, cnt, cnt_congr n (fun j hj => e j (by omega)), e n (by omega)]
theorem cnt_none {g : Nat → Bool} : ∀ n, (∀ j, j < n → g j = false) → cnt g n = 0
  | 0, _ => rfl
  | n + 1, e => by rw [cnt, cnt_none n (fun j hj => e j (by omega)), e n (by omega)]; rfl
theorem cnt_word (y : List Nat) (k : Nat) : cnt (bt y) (64 * (k + 1)) = cnt (bt y) (64 * k) + cnt (wd y k).testBit 64 := by
  rw [show 64 * (k + 1) = 64 * k + 64 by omega, cnt_add]
  congr 1
  apply cnt_congr
  intro j hj
  rw [bt_wd, show (64 * k + j) / 64 = k by omega, show (64 * k + j) % 64 = j by omega]
theorem cnt_fit {x y : List Nat} {N W : Nat} (hN : N ≤ 64 * W) (h : ∀ j, bt y j = (decide (j < 64 * W) && (decide (j < N) && bt x j))) : cnt (bt y) (64 * W) = cnt (bt x) N := by
  have e : 64 * W = N + (64 * W - N) := by omega
  rw [e, cnt_add, cnt_none (g := fun j => bt y (N + j)) _ (fun j _ => by rw [h, decide_eq_false (show ¬ N + j < N by omega), Bool.false_and, Bool.and_false]), Nat.add_zero]
  apply cnt_congr
  intro j hj
  rw [h, decide_eq_true hj, decide_eq_true (show j < 64 * W by omega), Bool.true_and, Bool.true_and]

def OnesRel (y : List Nat) (w1 : World) (s i : Value) (wr : World) : Prop := ∃ k : Nat, k ≤ y.length ∧ i = .int .i64 (k : Int) ∧ s = .int .i64 (cnt (bt y) (64 * k) : Nat) ∧ w1 = wr

set_option maxRecDepth 100000 in
set_option maxHeartbeats 1600000 in
theorem pcount : CountOK := by
  intro A m c x n w hm hb hc hcm hI hr hx
  have HFIT := Lib.hid (pfit A m c x n w hm hb hc hcm hI hr hx)
  have hWl := wds_le n
  have HWN := Lib.hid (wds_wid n)
  clear hm hb hc hcm hI hr hx
  generalize wdsVc3 n = W at *
  go_enter Try.func29, Try.ntmps29
  go_wp2_with fail
  refine HFIT.out.mono ?_
  rintro e w1 ⟨v, y, rfl, hy, wy, b_y, oy, hbl⟩
  have HQ := Lib.hid (cnt_fit HWN.out b_y)
  obtain ⟨Y, cY, rfl, _, _, rY, _⟩ := own_slice oy
  subst hy
  clear HFIT HWN b_y oy
  go_wp2_with fail
  go_loopw [5, 12] (fun s i wr => OnesRel y w1 s i wr) (fun _ i _ => y.length - (intOf i).toNat)
  case atStart => exact ⟨0, Nat.zero_le _, rfl, rfl, rfl⟩
  case round =>
    obtain ⟨k, hk, rfl, rfl, rfl⟩ := hrel
    have hcl := cnt_leVc5 (bt y) (64 * k)
    by_cases hlt : k < y.length
    · obtain ⟨g, o, rfl, hcell⟩ := rY.word hlt
      have hu : y[k] < 18446744073709551616 := wy _ (List.getElem_mem hlt)
      have e1 := cnt_word y k
      rw [← wd_in hlt] at e1
      generalize y[k] = u at *
      have hcu := cnt_leVc5 u.testBit 64
      have HO := Lib.hid (onesCount u w1 hu)
      have R : OnesRel y w1 (.int .i64 (cnt (bt y) (64 * k) + cnt u.testBit 64 : Nat)) (.int .i64 (k + 1 : Nat)) w1 := ⟨k + 1, by omega, rfl, by rw [e1], rfl⟩
      clear e1
      generalize cnt (bt y) (64 * k) = N at *
      generalize cnt u.testBit 64 = M at *
      go_wp2_with fail
      refine HO.out.mono ?_
      rintro e w2 ⟨rfl, rfl⟩
      clear HO
      go_wp2_with fail
      go_roundw
      case rel => first | exact R | ((repeat apply Exists.intro); exact ⟨R, rfl⟩)
      case measure => simp [intOf]; omega
    · have hkl : k = y.length := by omega
      subst hkl
      rw [HQ.out]
      go_wp2_with fail
      go_ret
      exact ⟨rfl, hbl⟩

end Go.Proofs.Ytokgabijjgndgaa

namespace Go.Proofs.Ytokgabijjgndgaa
open Go.RowKit

set_option maxRecDepth 100000 in
set_option maxHeartbeats 1600000 in
theorem csteps_any (n m : Int) (w : World) : Calls Try.prog 13 #[.int .i64 n, .int .i64 m] w fun e w' => e = .returned (.int .i64 (stepsW n m)) ∧ w = w' := by
  by_cases h : 0 ≤ n ∧ n ≤ 1048576 ∧ 0 ≤ m ∧ m ≤ 1048576
  · obtain ⟨N, W, X, rfl, hW, hX, hXl, eX, eS⟩ := stepsW_yes h
    have HW := Lib.hid (pwords m w)
    rw [hW] at HW
    rw [← eS]
    obtain ⟨h1, h2, h3, h4⟩ := h
    have z1 : ¬ (m < 0) := by omega
    have z2 : ¬ (1048576 < m) := by omega
    clear hW hX eS
    go_enter Try.func13, Try.ntmps13
    go_wp2_with fail
    refine HW.out.mono ?_
    rintro e w1 ⟨rfl, rfl⟩
    go_wp2_with fail
    go_ret
    exact ⟨rfl, rfl⟩
  · have HS := Lib.hid (stepsW_no h)
    generalize stepsW n m = X at *
    by_cases h1 : n < 0
    · clear h
      go_enter Try.func13, Try.ntmps13
      go_wp2_with fail
      all_goals (go_ret; exact ⟨ret_int HS.out, rfl⟩)
    · by_cases h2 : 1048576 < n
      · clear h
        go_enter Try.func13, Try.ntmps13
        go_wp2_with fail
        all_goals (go_ret; exact ⟨ret_int HS.out, rfl⟩)
      · by_cases h3 : m < 0
        · clear h
          go_enter Try.func13, Try.ntmps13
          go_wp2_with fail
          all_goals (go_ret; exact ⟨ret_int HS.out, rfl⟩)
        · have h4 : 1048576 < m := by omega
          clear h
          go_enter Try.func13, Try.ntmps13
          go_wp2_with fail
          all_goals (go_ret; exact ⟨ret_int HS.out, rfl⟩)

end Go.Proofs.Ytokgabijjgndgaa
