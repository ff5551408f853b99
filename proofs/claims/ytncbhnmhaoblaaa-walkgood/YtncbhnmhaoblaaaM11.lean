/-
  Words and contracts that the proof leans on.
-/
import Derived.Test.YtncbhnmhaoblaaaM8
import Derived.Test.YtncbhnmhaoblaaaM10
import Derived.Deep.OwnRows
import Derived.Deep.DeepCutAuto
namespace Go.Proofs.Ytncbhnmhaoblaaa
open Go.RowKit

/-- A function of a vector and a width. -/
def Op1OK (f : FuncId) (g : List Nat → Nat → Bool) : Prop := ∀ (A : Option Addr) (m c : Nat) (x : List Nat) (n : Int) (w : World), x.length = m → m ≤ 16384 → m ≤ c → c ≤ maxLen → I64 n → Row w A (uv x) → Wd x →
  Calls Try.prog f #[.slice A m c, .int .i64 n] w (MadeV (wdsVc3 n) (fun j => decide (j < wid n) && g x j) w)
def OnesOK : Prop := ∀ (n : Int) (w : World), I64 n → Calls Try.prog 39 #[.int .i64 n] w (MadeV (wdsVc3 n) (fun j => decide (j < wid n) && true) w)
def GetOK : Prop := ∀ (A : Option Addr) (n c : Nat) (i : Int) (x : List Nat) (w : World), x.length = n → n ≤ 16384 → n ≤ c → c ≤ maxLen → I64 i → Row w A (uv x) → Wd x → Calls Try.prog 38 #[.slice A n c, .int .i64 i] w fun e w' => e = .returned (.bool (btI x i)) ∧ Below w.heap.size w w'
end Go.Proofs.Ytncbhnmhaoblaaa

namespace Go.Proofs.Ytncbhnmhaoblaaa
open Go.RowKit

theorem wid_lo {n : Int} (h : n < 0) : (0 : Int) = (wid n : Nat) := by unfold wid; rw [if_pos h]; rfl
theorem wid_hi {n : Int} (h : 1048576 < n) : (1048576 : Int) = (wid n : Nat) := by unfold wid; rw [if_neg (by omega), if_pos h]; rfl
theorem wid_mid {n : Int} (h : ¬ n < 0) (h1 : ¬ 1048576 < n) : n = (wid n : Nat) := by unfold wid; rw [if_neg h, if_neg h1]; omega

theorem pwidth (n : Int) (w : World) : Calls Try.prog 42 #[.int .i64 n] w fun e w' => e = .returned (.int .i64 (wid n : Nat)) ∧ w = w' := by
  obtain ⟨r, hr⟩ : ∃ r, wid n = r := ⟨_, rfl⟩
  rw [hr]
  by_cases h0 : n < 0
  · have HR := Lib.hid (hr ▸ wid_lo h0)
    clear hr
    go_enter Try.func42, Try.ntmps42
    go_wp2_with fail
    all_goals (go_ret; exact ⟨ret_int HR.out, rfl⟩)
  · by_cases h1 : 1048576 < n
    · have HR := Lib.hid (hr ▸ wid_hi h1)
      clear hr
      go_enter Try.func42, Try.ntmps42
      go_wp2_with fail
      all_goals (go_ret; exact ⟨ret_int HR.out, rfl⟩)
    · have HR := Lib.hid (hr ▸ wid_mid h0 h1)
      clear hr
      go_enter Try.func42, Try.ntmps42
      go_wp2_with fail
      all_goals (go_ret; exact ⟨ret_int HR.out, rfl⟩)

theorem pwords (n : Int) (w : World) : Calls Try.prog 30 #[.int .i64 n] w fun e w' => e = .returned (.int .i64 (wdsVc3 n : Nat)) ∧ w = w' := by
  have h := wid_le n
  have HE : Hid ((((wid n : Nat) : Int) + 64 - 1) / 64 = (wdsVc3 n : Nat)) := by show _ = _; unfold wdsVc3; omega
  go_enter Try.func30, Try.ntmps30
  go_wp2_with fail
  refine (pwidth n _).mono ?_
  rintro e w' ⟨rfl, rfl⟩
  generalize wid n = N at *
  go_wp2_with fail
  go_ret
  exact ⟨ret_int HE.out, rfl⟩
/-- Word k, where words of noughts follow. -/
def wd (x : List Nat) (k : Nat) : Nat := x[k]?.getD 0
theorem wd_in {x : List Nat} {k : Nat} (h : k < x.length) : x[k] = wd x k := by unfold wd; rw [List.getElem?_eq_getElem h]; rfl
theorem wd_out {x : List Nat} {k : Nat} (h : x.length ≤ k) : 0 = wd x k := by unfold wd; rw [List.getElem?_eq_none h]; rfl
theorem wd_lt {x : List Nat} (h : Wd x) (k : Nat) : wd x k < 18446744073709551616 := by
  by_cases hk : k < x.length
  · rw [← wd_in hk]; exact h _ (List.getElem_mem hk)
  · rw [← wd_out (by omega)]; decide
theorem bt_wd (x : List Nat) (j : Nat) : bt x j = (wd x (j / 64)).testBit (j % 64) := rfl

theorem pword (A : Option Addr) (n c k : Nat) (x : List Nat) (w : World) (hn : x.length = n) (hr : Row w A (uv x)) :
    Calls Try.prog 54 #[.slice A n c, .int .i64 (k : Int)] w fun e w' => e = .returned (.int .u64 (wd x k : Nat)) ∧ w = w' := by
  subst hn
  by_cases hk : k < x.length
  · obtain ⟨g, o, rfl, hc⟩ := hr.word hk
    rw [wd_in hk] at hc
    generalize wd x k = u at *
    clear hr
    go_enter Try.func54, Try.ntmps54
    go_wp2_with fail
    go_ret
    exact ⟨rfl, rfl⟩
  · rw [← wd_out (by omega)]
    clear hr
    go_enter Try.func54, Try.ntmps54
    go_wp2_with fail
    go_ret
    exact ⟨rfl, rfl⟩

/-- Is there such a bit? -/
def hasB (n : Nat) (i : Int) : Bool := decide (0 ≤ i ∧ i < 64 * (n : Int))
theorem phas (A : Option Addr) (n c : Nat) (i : Int) (w : World) (hi : I64 i) (hn : n ≤ 16384) :
    Calls Try.prog 48 #[.slice A n c, .int .i64 i] w fun e w' => e = .returned (.bool (hasB n i)) ∧ w = w' := by
  unfold I64 at hi
  obtain ⟨r, hr⟩ : ∃ r, hasB n i = r := ⟨_, rfl⟩
  rw [hr]
  by_cases h0 : 0 ≤ i
  · obtain ⟨k, rfl⟩ := Int.eq_ofNat_of_zero_le h0
    by_cases h1 : k / 64 < n
    · have HR : Hid (r = true) := by show _ = _; rw [← hr]; unfold hasB; simp; omega
      clear hr
      go_enter Try.func48, Try.ntmps48
      go_wp2_with fail
      go_ret
      exact ⟨ret_bool (by rw [HR.out]; simp; omega), rfl⟩
    · have HR : Hid (r = false) := by show _ = _; rw [← hr]; unfold hasB; simp; omega
      clear hr
      go_enter Try.func48, Try.ntmps48
      go_wp2_with fail
      go_ret
      exact ⟨ret_bool (by rw [HR.out]; simp; omega), rfl⟩
  · have HR : Hid (r = false) := by show _ = _; rw [← hr]; unfold hasB; simp; omega
    clear hr
    go_enter Try.func48, Try.ntmps48
    go_wp2_with fail
    go_ret
    exact ⟨ret_bool HR.out.symm, rfl⟩

theorem pow_wrap (s : Nat) (hs : s < 64) : IntKind.u64.wrap ((2 : Int) ^ s) = ((2 ^ s : Nat) : Int) := by
  have h2 : 2 ^ s < 18446744073709551616 := Nat.lt_of_lt_of_le (Nat.pow_lt_pow_right (by decide) hs) (by decide)
  have e1 : ((2 : Int) ^ s) = ((2 ^ s : Nat) : Int) := by rw [Int.natCast_pow]; rfl
  rw [e1, IntKind.wrap_u64]
  clear e1
  generalize 2 ^ s = P at *
  omega
theorem pbit (k : Nat) (w : World) (hk : k ≤ 1048576) :
    Calls Try.prog 49 #[.int .i64 (k : Int)] w fun e w' => e = .returned (.int .u64 (2 ^ (k % 64) : Nat)) ∧ w = w' := by
  have h64 : k % 64 < 64 := Nat.mod_lt _ (by decide)
  have HP := Lib.hid (pow_wrap (k % 64) h64)
  go_enter Try.func49, Try.ntmps49
  go_wp2_with fail
  go_ret
  exact ⟨ret_int HP.out, rfl⟩

end Go.Proofs.Ytncbhnmhaoblaaa

namespace Go.Proofs.Ytncbhnmhaoblaaa
open Go.RowKit

/-- A row of words that is told word by word, as new words with such bits. -/
theorem made_of {W T : Nat} {F : Nat → Nat} {g : Nat → Bool} {w wr : World} (hF : ∀ k, k < W → F k < 18446744073709551616) (hg : ∀ j, j < 64 * W → (F (j / 64)).testBit (j % 64) = g j)
    (hr : wr.rowIs T 71 W (fun k => .int .u64 (F k : Nat))) (hT : w.heap.size ≤ T) (hW : W ≤ maxLen) (hb : Below w.heap.size w wr) :
    MadeV W g w (.returned (.slice (some ⟨T, 0, none⟩) W W)) wr := by
  refine ⟨_, (List.range W).map F, rfl, by simp, ?_, fun j => ?_, ?_, hb⟩
  · intro u hu
    obtain ⟨k, hk, rfl⟩ := List.mem_map.1 hu
    exact hF k (List.mem_range.1 hk)
  · unfold bt
    rw [List.getElem?_map]
    by_cases hj : j / 64 < W
    · rw [List.getElem?_range hj, decide_eq_true (show j < 64 * W by omega), Bool.true_and, ← hg j (by omega)]
      rfl
    · rw [List.getElem?_eq_none (by simp; omega), decide_eq_false (by omega), Bool.false_and]
      simp
  · have := own_rowIs hr hT hW
    simpa [uv, List.map_map, Function.comp_def] using this

/-- The head of a round: k words are told. -/
def WRel (W : Nat) (F : Nat → Nat) (w : World) (i : Value) (wr : World) : Prop :=
  ∃ k : Nat, k ≤ W ∧ i = .int .i64 (k : Int) ∧ wr.rowIs w.heap.size 71 W (fun j => .int .u64 ((if j < k then F j else 0 : Nat) : Int)) ∧ Below w.heap.size w wr
theorem wrel_start {W : Nat} {F : Nat → Nat} {w wr : World} (hr : wr.rowIs w.heap.size 71 W (fun _ => .int .u64 0)) (hb : Below w.heap.size w wr) : WRel W F w (.int .i64 0) wr :=
  ⟨0, Nat.zero_le _, rfl, hr.congr fun i _ => by rw [if_neg (Nat.not_lt_zero _)]; rfl, hb⟩
theorem wrel_next {W : Nat} {F : Nat → Nat} {w wr : World} {k : Nat} (hk : k < W) (hr : wr.rowIs w.heap.size 71 W (fun j => .int .u64 ((if j < k then F j else 0 : Nat) : Int))) (hb : Below w.heap.size w wr) {z : Int} (hz : z = (F k : Nat)) :
    WRel W F w (.int .i64 (k + 1 : Nat)) (wr.setCell ⟨w.heap.size, k, none⟩ (.int .u64 z)) := by
  refine ⟨k + 1, by omega, rfl, (hr.set k _).congr fun i _ => ?_, hb.setCell (Nat.le_refl _) _⟩
  subst hz
  by_cases e : i = k
  · rw [if_pos e, if_pos (by omega), e]
  · rw [if_neg e]
    by_cases g : i < k
    · rw [if_pos g, if_pos (by omega)]
    · rw [if_neg g, if_neg (by omega)]
end Go.Proofs.Ytncbhnmhaoblaaa

namespace Go.Proofs.Ytncbhnmhaoblaaa
open Go.RowKit

/-- What clearFrom makes of words: the bits from N on go. -/
def keepW (N : Nat) (F : Nat → Nat) (k : Nat) : Nat := if k = N / 64 ∧ N % 64 ≠ 0 then F k &&& (2 ^ (N % 64) - 1) else F k
theorem keepW_lt {N W : Nat} {F : Nat → Nat} (h : ∀ k, k < W → F k < 18446744073709551616) (k : Nat) (hk : k < W) : keepW N F k < 18446744073709551616 := by
  unfold keepW
  split
  · exact Nat.lt_of_le_of_lt Nat.and_le_left (h k hk)
  · exact h k hk
theorem keepW_bit {N : Nat} {F : Nat → Nat} {g : Nat → Bool} (h : ∀ j, j < 64 * ((N + 63) / 64) → (F (j / 64)).testBit (j % 64) = g j) (j : Nat) (hj : j < 64 * ((N + 63) / 64)) : (keepW N F (j / 64)).testBit (j % 64) = (decide (j < N) && g j) := by
  unfold keepW
  split
  · rename_i e
    rw [Nat.testBit_and, h j hj, Nat.testBit_two_pow_sub_one, Bool.and_comm]
    congr 1
    simp only [decide_eq_decide]
    omega
  · rename_i e
    rw [h j hj]
    by_cases hN : j < N
    · rw [decide_eq_true hN, Bool.true_and]
    · exfalso
      omega

theorem mask_wrap (s : Nat) (hs : s < 64) : IntKind.u64.wrap (IntKind.u64.wrap ((2 : Int) ^ s) - 1) = ((2 ^ s - 1 : Nat) : Int) := by
  have h2 : 2 ^ s < 18446744073709551616 := Nat.lt_of_lt_of_le (Nat.pow_lt_pow_right (by decide) hs) (by decide)
  have h0 := Nat.two_pow_pos s
  rw [pow_wrap s hs, IntKind.wrap_u64]
  generalize 2 ^ s = P at *
  omega

theorem clear_set {T N q s : Nat} {F : Nat → Nat} {w : World} (hr : w.rowIs T 71 (q + 1) (fun k => .int .u64 (F k : Nat))) {z : Int} (hz : z = ((F q &&& (2 ^ s - 1) : Nat) : Int)) (hq : q = N / 64) (hs : N % 64 = s) (h0 : s ≠ 0) :
    (w.setCell ⟨T, q, none⟩ (.int .u64 z)).rowIs T 71 (q + 1) (fun k => .int .u64 (keepW N F k : Nat)) := (hr.set q _).congr fun k _ => by
  unfold keepW
  by_cases e : k = q
  · rw [if_pos e, if_pos (by omega), e, hs, hz]
  · rw [if_neg e, if_neg (by omega)]

set_option maxRecDepth 100000 in
set_option maxHeartbeats 1600000 in
theorem pclear (n : Int) (T W B : Nat) (F : Nat → Nat) (w0 w : World) (hW : wdsVc3 n = W) (hr : w.rowIs T 71 W (fun k => .int .u64 (F k : Nat))) (hF : ∀ k, k < W → F k < 18446744073709551616) (hT : B ≤ T) (hb : Below B w0 w) :
    Calls Try.prog 52 #[.slice (some ⟨T, 0, none⟩) W W, .int .i64 n] w fun e w' => e = .returned (.tuple #[]) ∧ w'.rowIs T 71 W (fun k => .int .u64 (keepW (wid n) F k : Nat)) ∧ Below B w0 w' := by
  have HWD := Lib.hid (pwidth n w)
  have hN := wid_le n
  have hWN : W = (wid n + 63) / 64 := hW.symm
  clear hW
  generalize wid n = N at *
  go_enter Try.func52, Try.ntmps52
  go_wp2_with fail
  refine HWD.out.mono ?_
  rintro e w' ⟨rfl, rfl⟩
  clear HWD
  by_cases h0 : N % 64 = 0
  · have HR : Hid (w.rowIs T 71 W (fun k => .int .u64 (keepW N F k : Nat))) := hr.congr fun k _ => by unfold keepW; rw [if_neg (by omega)]
    have z0 : (N : Int) % 64 = 0 := by omega
    clear hWN hr
    go_wp2_with fail
    go_end0
    exact ⟨rfl, HR.out, hb⟩
  · obtain ⟨q, rfl⟩ : ∃ q, W = q + 1 := ⟨N / 64, by omega⟩
    obtain ⟨s, hs⟩ : ∃ s, N % 64 = s := ⟨_, rfl⟩
    have z0 : (N : Int) % 64 = (s : Int) := by omega
    have z1 : s ≠ 0 := by omega
    have z2 : s < 64 := by omega
    have t1 := hr.cell (i := q) (by omega)
    have t2 := hr.frozen q
    have hq := hF q (by omega)
    have hm2 : 2 ^ s - 1 < 18446744073709551616 := by
      have h2 : 2 ^ s < 18446744073709551616 := Nat.lt_of_lt_of_le (Nat.pow_lt_pow_right (by decide) z2) (by decide)
      omega
    have HS := Lib.hid (fun (w1 : World) (h1 : w1.rowIs T 71 (q + 1) (fun k => .int .u64 (F k : Nat))) (z : Int) (hz : z = ((F q &&& (2 ^ s - 1) : Nat) : Int)) => clear_set (N := N) h1 hz (by omega) hs (by omega))
    have HRR := Lib.hid hr
    have HBB := Lib.hid hb
    have HE := Lib.hid (u64_and_nat (F q) (2 ^ s - 1) hq hm2)
    have HM := Lib.hid (mask_wrap s z2)
    have hql : q ≤ 16384 := by omega
    have zq := IntWalk.i64_in (q : Int) (by omega)
    clear hWN hr h0 hs hm2 hb
    go_wp2_with fail
    go_region
    go_wp2_with fail
    go_end0
    exact ⟨rfl, HS.out _ HRR.out.drew _ (by rw [HM.out, HE.out]), (below_drew HBB.out).setCell hT _⟩

end Go.Proofs.Ytncbhnmhaoblaaa

namespace Go.Proofs.Ytncbhnmhaoblaaa
open Go.RowKit

theorem Try.infoU64sVp5 : (Try.prog.info? 71).map (·.size) = some 1 := by kernel_rfl

/-- A block that reads words, as a row that is told word by word. -/
theorem row_of_splice {w : World} {T W : Nat} {x : List Nat} (h : w.heap[T]? = some (.cells (splice (List.replicate W (.int .u64 0)) 0 (uv (x.take W))).toArray 71 (0, 0))) : w.rowIs T 71 W (fun k => .int .u64 (wd x k : Nat)) := by
  have hl : (uv (x.take W)).length ≤ W := by rw [uv_length, List.length_take]; omega
  refine ⟨_, h, ?_, fun i hi => ?_⟩
  · rw [List.size_toArray, length_splice _ _ _ (by simp; omega), List.length_replicate]
  · rw [List.getElem?_toArray]
    unfold splice
    rw [List.take_zero, List.nil_append, Nat.zero_add]
    show _ = some (Value.int .u64 (wd x i : Nat))
    by_cases hx : i < x.length
    · have hu : i < (uv (x.take W)).length := by rw [uv_length, List.length_take]; omega
      rw [List.getElem?_append_left hu, ← wd_in hx]
      unfold uv
      rw [List.getElem?_map, List.getElem?_take, if_pos hi, List.getElem?_eq_getElem hx]
      rfl
    · rw [List.getElem?_append_right (by rw [uv_length, List.length_take]; omega), ← wd_out (x := x) (k := i) (by omega), List.getElem?_drop, List.getElem?_replicate, if_pos (by rw [uv_length, List.length_take]; omega)]
      rfl

theorem Row.ofTake {w : World} {A : Option Addr} {x : List Nat} {W : Nat} (h : Row w A (uv x)) (hp : 0 < (uv (x.take W)).length) : ∃ ad, A = some ad ∧ ∀ j v, (uv (x.take W))[j]? = some v → w.cell? (ad.add j) = some v := by
  have e : uv (x.take W) = (uv x).take W := by unfold uv; rw [List.map_take]
  rw [e] at hp ⊢
  obtain ⟨g, o, rfl, hc⟩ := (h.take W) (by intro e; rw [e] at hp; simp at hp)
  exact ⟨_, rfl, fun j v hv => by rw [Addr.add_lit]; exact hc j v hv⟩

theorem blk_newVp5 (w : World) (o : Obj) : (w.alloc o).heap[w.heap.size]? = some o := by
  show (w.heap.push o)[w.heap.size]? = _
  simp

set_option maxRecDepth 100000 in
set_option maxHeartbeats 1600000 in
theorem pfit : Op1OK 45 bt := by
  intro A m c x n w hm hb hc hcm hI hr hx
  obtain ⟨i0, hi, hz0, hz1, hz2⟩ := info_parts Try.infoU64Vc2
  have HWS := Lib.hid (pwords n w)
  have hWl := wds_le n
  have HM := Lib.hid hm
  obtain ⟨W, hW⟩ : ∃ W, wdsVc3 n = W := ⟨_, rfl⟩
  have HW := Lib.hid hW
  rw [hW] at hWl HWS ⊢
  clear hW hm
  have HF := Lib.hid (fun (T : Nat) (w1 : World) (h1 : w1.rowIs T 71 W (fun k => .int .u64 (keepW (wid n) (wd x) k : Nat))) => made_of (w := w) (wr := w1) (T := T) (W := W) (F := keepW (wid n) (wd x)) (g := fun j => decide (j < wid n) && bt x j) (keepW_lt fun k _ => wd_lt hx k) (fun j hj => keepW_bit (fun j _ => rfl) j (by rw [← HW.out] at hj; exact hj)) h1)
  go_enter Try.func45, Try.ntmps45
  go_wp2_with fail
  refine HWS.out.mono ?_
  rintro e w' ⟨rfl, rfl⟩
  clear HWS
  go_upto_region 2 with (at_make; refine wpList_make_row _ rfl _ _ 64 rfl 71 i0 (.int .u64 0) Try.underlying64 hi hz0 hz1 rfl .i64 .i64 W rfl rfl (by rw [hz2]; omega) (by omega) ?_)
  have hb1 : Below w.heap.size w (w.alloc (.cells (madeCells #[.int .u64 0] W) 71)) := (Below.refl _ _).alloc (Nat.le_refl _) _
  have HH : Hid ((w.alloc (.cells (madeCells #[.int .u64 0] W) 71)).heap[w.heap.size]? = some (.cells (List.replicate W (.int .u64 0)).toArray 71 (0, 0))) := by
    show _ = _
    rw [← toList_madeCells_one, Array.toArray_toList]
    exact blk_newVp5 w _
  have r1 := hr.below hb1
  generalize w.alloc (.cells (madeCells #[.int .u64 0] W) 71) = w0 at *
  obtain ⟨cur, hcur⟩ : ∃ cur : List Value, List.replicate W (.int .u64 0) = cur := ⟨_, rfl⟩
  obtain ⟨cs, hcs⟩ : ∃ cs : List Value, uv (x.take W) = cs := ⟨_, rfl⟩
  have HC := Lib.hid hcur
  have HS := Lib.hid hcs
  rw [hcur] at HH
  have G1 : Hid (cs.length = Nat.min m W) := by show _ = _; rw [← hcs, uv_length, List.length_take, HM.out]; exact Nat.min_comm _ _
  have G2 : Hid (0 < cs.length → ∃ ad, A = some ad ∧ ∀ j v, cs[j]? = some v → w0.cell? (ad.add j) = some v) := by show _ → _; rw [← hcs]; exact r1.ofTake
  have G3 : Hid (0 + cs.length ≤ cur.length) := by show _ ≤ _; rw [← hcs, ← hcur, uv_length, List.length_take, List.length_replicate]; omega
  have G4 : Hid (∀ v ∈ cs, v.oneCell' = true) := by show ∀ v ∈ cs, _; rw [← hcs]; exact uv_one _
  clear hcur hcs
  go_wp2_with (with_reducible refine wpList_copy_splice rfl (.tmp 9) (.tmp 10) 64 64 rfl 71 Try.underlying64 Try.infoU64sVp5 (some ⟨w.heap.size, 0, none⟩) A W W m c rfl rfl w.heap.size 0 cur 71 HH.out cs G1.out (fun hp => ⟨rfl, G2.out hp⟩) G3.out G4.out w.heap.size w hb1 (Nat.le_refl _) ?_)
  intro w2 HG hb2
  rw [← HS.out, ← HC.out] at HG
  have hrow := row_of_splice HG.out
  clear HG HH r1 hb1 HS HC
  go_wp2_with fail
  refine (pclear n w.heap.size W w.heap.size (wd x) w w2 HW.out hrow (fun k _ => wd_lt hx k) (Nat.le_refl _) hb2).mono ?_
  rintro e w3 ⟨rfl, h3, hb3⟩
  have HQ := Lib.hid (HF.out _ w3 h3 (Nat.le_refl _) (by unfold maxLen; omega) hb3)
  clear h3 hb3 hrow hb2
  go_wp2_with fail
  go_ret
  exact HQ.out

end Go.Proofs.Ytncbhnmhaoblaaa

namespace Go.Proofs.Ytncbhnmhaoblaaa
open Go.RowKit

def notW (x : List Nat) (k : Nat) : Nat := 18446744073709551615 - wd x k
theorem not_word (u : Nat) (hu : u < 18446744073709551616) : bits .xor .u64 18446744073709551615 (u : Int) = ((18446744073709551615 - u : Nat) : Int) := by
  have h := u64_xor_nat 18446744073709551615 u (by decide) hu
  rw [show (((18446744073709551615 : Nat)) : Int) = 18446744073709551615 from rfl] at h
  rw [h]
  congr 1
  apply Nat.eq_of_testBit_eq
  intro i
  rw [Nat.testBit_xor, show 18446744073709551615 - u = 2 ^ 64 - (u + 1) by omega, Nat.testBit_two_pow_sub_succ hu, show (18446744073709551615 : Nat) = 2 ^ 64 - 1 from rfl, Nat.testBit_two_pow_sub_one]
  by_cases hi : i < 64
  · rw [decide_eq_true hi]
    cases u.testBit i <;> rfl
  · rw [decide_eq_false hi, Nat.testBit_lt_two_pow (Nat.lt_of_lt_of_le hu (show 2 ^ 64 ≤ 2 ^ i from Nat.pow_le_pow_right (by decide) (by omega)))]
    rfl
theorem notW_bit {x : List Nat} (hx : Wd x) (j : Nat) : (notW x (j / 64)).testBit (j % 64) = !bt x j := by
  have h := wd_lt hx (j / 64)
  unfold notW
  rw [show 18446744073709551615 - wd x (j / 64) = 2 ^ 64 - (wd x (j / 64) + 1) by omega, Nat.testBit_two_pow_sub_succ h, decide_eq_true (Nat.mod_lt _ (by decide)), Bool.true_and]
  rfl

set_option maxRecDepth 100000 in
set_option maxHeartbeats 1600000 in
theorem pnot : Op1OK 50 (fun x j => !bt x j) := by
  intro A m c x n w hm hb hc hcm hI hr hx
  obtain ⟨i0, hi, hz0, hz1, hz2⟩ := info_parts Try.infoU64Vc2
  have HWS := Lib.hid (pwords n w)
  have hWl := wds_le n
  have HM := Lib.hid hm
  obtain ⟨W, hW⟩ : ∃ W, wdsVc3 n = W := ⟨_, rfl⟩
  have HW := Lib.hid hW
  rw [hW] at hWl HWS ⊢
  clear hW hm
  have HF := Lib.hid (fun (T : Nat) (w1 : World) (h1 : w1.rowIs T 71 W (fun k => .int .u64 (keepW (wid n) (notW x) k : Nat))) => made_of (w := w) (wr := w1) (T := T) (W := W) (F := keepW (wid n) (notW x)) (g := fun j => decide (j < wid n) && !bt x j) (keepW_lt fun k _ => by unfold notW; omega) (fun j hj => keepW_bit (fun j _ => notW_bit hx j) j (by rw [← HW.out] at hj; exact hj)) h1)
  go_enter Try.func50, Try.ntmps50
  go_wp2_with fail
  refine HWS.out.mono ?_
  rintro e w' ⟨rfl, rfl⟩
  clear HWS
  go_upto_region 2 with (at_make; refine wpList_make_row _ rfl _ _ 64 rfl 71 i0 (.int .u64 0) Try.underlying64 hi hz0 hz1 rfl .i64 .i64 W rfl rfl (by rw [hz2]; omega) (by omega) ?_)
  have hT := World.rowIs_made w (.int .u64 0) W 71
  have hB : Below w.heap.size w (w.alloc (.cells (madeCells #[.int .u64 0] W) 71)) := (Below.refl _ _).alloc (Nat.le_refl _) _
  generalize w.alloc (.cells (madeCells #[.int .u64 0] W) 71) = w0 at *
  go_wp2_with fail
  go_loopw [12] (fun i wr => WRel W (notW x) w i wr) (fun i _ => W - (intOf i).toNat)
  case atStart => exact wrel_start hT hB
  case round =>
    clear hT hB
    obtain ⟨k, hk, rfl, hrow, hbw⟩ := hrel
    by_cases hlt : k < W
    · have t1 := hrow.cell hlt
      have t2 := hrow.frozen k
      have R := wrel_next hlt hrow hbw (not_word _ (wd_lt hx k))
      have rx := hr.below hbw
      clear hrow hbw HF
      go_wp2_with fail
      refine (pword A m c k x wr HM.out rx).mono ?_
      rintro e w2 ⟨rfl, rfl⟩
      generalize wd x k = u at *
      go_wp2_with fail
      go_roundw
      case rel => first | exact R | ((repeat apply Exists.intro); exact ⟨R, rfl⟩)
      case measure => simp [intOf]; omega
    · have hrow' := hrow.congr (g := fun j => .int .u64 (notW x j : Nat)) fun i h => by rw [if_pos (by omega)]
      clear hrow
      go_wp2_with fail
      refine (pclear n w.heap.size W w.heap.size (notW x) w wr HW.out hrow' (fun k _ => by unfold notW; omega) (Nat.le_refl _) hbw).mono ?_
      rintro e w3 ⟨rfl, h3, hb3⟩
      have HQ := Lib.hid (HF.out _ w3 h3 (Nat.le_refl _) (by unfold maxLen; omega) hb3)
      clear h3 hb3 hrow' hbw HF
      go_wp2_with fail
      go_ret
      exact HQ.out

theorem ponesOK : OnesOK := by
  intro n w hI
  have h := pnot none 0 0 [] n w rfl (by decide) (by decide) (by decide) hI (Row.nil _ _) (fun u hu => by simp at hu)
  go_enter Try.func39, Try.ntmps39
  go_wp2_with fail
  refine h.mono ?_
  rintro e w1 ⟨v, x, rfl, h1, h2, h3, h4, h5⟩
  have HQ : Hid (MadeV (wdsVc3 n) (fun j => decide (j < wid n) && true) w (.returned v) w1) := ⟨v, x, rfl, h1, h2, fun j => by rw [h3]; simp [bt], h4, h5⟩
  clear h1 h2 h3 h4 h5 h
  go_wp2_with fail
  go_ret
  exact HQ.out

end Go.Proofs.Ytncbhnmhaoblaaa

namespace Go.Proofs.Ytncbhnmhaoblaaa
open Go.RowKit

/-- How many words are worked out. -/
def stepsW (n m : Int) : Int := if 0 ≤ n ∧ n ≤ 1048576 ∧ 0 ≤ m ∧ m ≤ 1048576 then n * (wdsVc3 m : Nat) else 0
theorem stepsW_no {n m : Int} (h : ¬ (0 ≤ n ∧ n ≤ 1048576 ∧ 0 ≤ m ∧ m ≤ 1048576)) : 0 = stepsW n m := by unfold stepsW; rw [if_neg h]
theorem stepsW_yes {n m : Int} (h : 0 ≤ n ∧ n ≤ 1048576 ∧ 0 ≤ m ∧ m ≤ 1048576) : ∃ N W X : Nat, n = N ∧ wdsVc3 m = W ∧ N * W = X ∧ X ≤ 17179869184 ∧ ((N : Int) * (W : Int) = (X : Int)) ∧ (X : Int) = stepsW n m := by
  obtain ⟨N, rfl⟩ := Int.eq_ofNat_of_zero_le h.1
  have h2 := wds_le m
  refine ⟨N, wdsVc3 m, N * wdsVc3 m, rfl, rfl, rfl, ?_, (Int.natCast_mul _ _).symm, ?_⟩
  · have := Nat.mul_le_mul (show N ≤ 1048576 by omega) h2
    omega
  · unfold stepsW
    rw [if_pos h, Int.natCast_mul]

set_option maxRecDepth 100000 in
set_option maxHeartbeats 1600000 in
theorem hsteps_any (n m : Int) (w : World) : Calls Try.prog 28 #[.int .i64 n, .int .i64 m] w fun e w' => e = .returned (.int .i64 (stepsW n m)) ∧ w = w' := by
  by_cases h : 0 ≤ n ∧ n ≤ 1048576 ∧ 0 ≤ m ∧ m ≤ 1048576
  · obtain ⟨N, W, X, rfl, hW, hX, hXl, eX, eS⟩ := stepsW_yes h
    have HW := Lib.hid (pwords m w)
    rw [hW] at HW
    rw [← eS]
    obtain ⟨h1, h2, h3, h4⟩ := h
    have z1 : ¬ (m < 0) := by omega
    have z2 : ¬ (1048576 < m) := by omega
    clear hW hX eS
    go_enter Try.func28, Try.ntmps28
    go_wp2_with fail
    refine HW.out.mono ?_
    rintro e w1 ⟨rfl, rfl⟩
    go_wp2_with fail
    go_ret
    exact ⟨rfl, rfl⟩
  · have HS := Lib.hid (stepsW_no h)
    generalize stepsW n m = X at *
    by_cases h1 : n < 0
    · clear h
      go_enter Try.func28, Try.ntmps28
      go_wp2_with fail
      all_goals (go_ret; exact ⟨ret_int HS.out, rfl⟩)
    · by_cases h2 : 1048576 < n
      · clear h
        go_enter Try.func28, Try.ntmps28
        go_wp2_with fail
        all_goals (go_ret; exact ⟨ret_int HS.out, rfl⟩)
      · by_cases h3 : m < 0
        · clear h
          go_enter Try.func28, Try.ntmps28
          go_wp2_with fail
          all_goals (go_ret; exact ⟨ret_int HS.out, rfl⟩)
        · have h4 : 1048576 < m := by omega
          clear h
          go_enter Try.func28, Try.ntmps28
          go_wp2_with fail
          all_goals (go_ret; exact ⟨ret_int HS.out, rfl⟩)

end Go.Proofs.Ytncbhnmhaoblaaa
