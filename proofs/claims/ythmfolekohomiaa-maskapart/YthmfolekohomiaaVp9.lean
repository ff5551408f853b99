/-
  math/bits.OnesCount64; package vec over the landed code: Count.
-/
import Derived.Test.YthmfolekohomiaaVpC
namespace Go.Proofs.Ythmfolekohomiaa
open Go.RowKit

theorem and64 (a m : Nat) (ha : a < 18446744073709551616) (hm : m < 18446744073709551616) (M : Int) (hM : M = (m : Int)) : bits .and .u64 (a : Int) M = ((a &&& m : Nat) : Int) := by
  rw [hM]; exact u64_and_nat a m ha hm
theorem wrap64N (a : Nat) (ha : a < 18446744073709551616) : IntKind.u64.wrap (a : Int) = (a : Int) := by rw [IntKind.wrap_u64]; omega

theorem pc1 (u : Nat) (hu : u < 18446744073709551616) : IntKind.u64.wrap (bits .and .u64 ((u : Int) / 2) 6148914691236517205 + bits .and .u64 (u : Int) 6148914691236517205) = (p1 6148914691236517205 u : Nat) ∧ p1 6148914691236517205 u ≤ 12297829382473034410 := by
  have a1 : u / 2 &&& 6148914691236517205 ≤ 6148914691236517205 := Nat.and_le_right
  have a2 : u &&& 6148914691236517205 ≤ 6148914691236517205 := Nat.and_le_right
  rw [show (u : Int) / 2 = ((u / 2 : Nat) : Int) by omega, and64 (u / 2) 6148914691236517205 (by omega) (by decide) (6148914691236517205 : Int) rfl, and64 u 6148914691236517205 hu (by decide) (6148914691236517205 : Int) rfl, ← Int.natCast_add]
  unfold p1
  exact ⟨wrap64N _ (by omega), by omega⟩
theorem pc2 (u : Nat) (hu : u < 18446744073709551616) : IntKind.u64.wrap (bits .and .u64 ((u : Int) / 4) 3689348814741910323 + bits .and .u64 (u : Int) 3689348814741910323) = (p2 3689348814741910323 u : Nat) ∧ p2 3689348814741910323 u ≤ 7378697629483820646 := by
  have a1 : u / 4 &&& 3689348814741910323 ≤ 3689348814741910323 := Nat.and_le_right
  have a2 : u &&& 3689348814741910323 ≤ 3689348814741910323 := Nat.and_le_right
  rw [show (u : Int) / 4 = ((u / 4 : Nat) : Int) by omega, and64 (u / 4) 3689348814741910323 (by omega) (by decide) (3689348814741910323 : Int) rfl, and64 u 3689348814741910323 hu (by decide) (3689348814741910323 : Int) rfl, ← Int.natCast_add]
  unfold p2
  exact ⟨wrap64N _ (by omega), by omega⟩
theorem pc3 (u : Nat) (hu : u ≤ 7378697629483820646) : bits .and .u64 (IntKind.u64.wrap ((u : Int) / 16 + (u : Int))) 1085102592571150095 = (p3 1085102592571150095 u : Nat) := by
  rw [show (u : Int) / 16 + (u : Int) = ((u / 16 + u : Nat) : Int) by omega, wrap64N _ (by omega), and64 (u / 16 + u) 1085102592571150095 (by omega) (by decide) (1085102592571150095 : Int) rfl]
  rfl
theorem pc_sum (u d : Nat) (D : Int) (hD : D = (d : Int)) (h : u + u / d < 18446744073709551616) : IntKind.u64.wrap ((u : Int) + (u : Int) / D) = ((u + u / d : Nat) : Int) := by
  rw [hD, ← Int.natCast_ediv, ← Int.natCast_add]
  exact wrap64N _ h
theorem and127 (c : Nat) (hc : c < 9223372036854775808) : bits .and .i64 (wrap64 (c : Int)) 127 = ((c % 128 : Nat) : Int) := by
  have e : wrap64 (c : Int) = (c : Int) := IntWalk.wrap64_in _ (by omega)
  rw [e]
  show IntKind.i64.wrap ((BitVec.ofInt 64 (c : Int) &&& BitVec.ofInt 64 127).toNat : Int) = _
  have h1 : (BitVec.ofInt 64 (127 : Int)).toNat = 127 := by decide
  rw [BitVec.toNat_and, ofInt_u64 c (by omega), h1, show (127 : Nat) = 2 ^ 7 - 1 from rfl, Nat.and_two_pow_sub_one_eq_mod]
  exact IntWalk.i64_in _ (by omega)

set_option maxRecDepth 100000 in
set_option maxHeartbeats 1600000 in
theorem onesCount (u : Nat) (w : World) (hu : u < 18446744073709551616) :
    Calls Try.prog 30 #[.int .u64 (u : Int)] w fun e w' => e = .returned (.int .i64 (cnt u.testBit 64 : Nat)) ∧ w = w' := by
  obtain ⟨H1, b1⟩ := pc1 u hu
  obtain ⟨x1, e1⟩ : ∃ y, p1 6148914691236517205 u = y := ⟨_, rfl⟩
  rw [e1] at H1 b1
  obtain ⟨H2, b2⟩ := pc2 x1 (by omega)
  obtain ⟨x2, e2⟩ : ∃ y, p2 3689348814741910323 x1 = y := ⟨_, rfl⟩
  rw [e2] at H2 b2
  have H3 := pc3 x2 b2
  obtain ⟨B, e3⟩ : ∃ y, p3 1085102592571150095 x2 = y := ⟨_, rfl⟩
  rw [e3] at H3
  have hB : bytesC 8 u = B := by
    rw [← pc_bytes 8 u, ← e3, ← e2, ← e1]
    rfl
  obtain ⟨c1, c2, c3, c4, c5⟩ := pc_fold u B hB
  have H4 := pc_sum B 256 256 rfl (by omega)
  obtain ⟨x4, e4⟩ : ∃ y, B + B / 256 = y := ⟨_, rfl⟩
  rw [e4] at H4 c2 c3 c4 c5
  have H5 := pc_sum x4 65536 65536 rfl (by omega)
  obtain ⟨x5, e5⟩ : ∃ y, x4 + x4 / 65536 = y := ⟨_, rfl⟩
  rw [e5] at H5 c3 c4 c5
  have H6 := pc_sum x5 4294967296 4294967296 rfl (by omega)
  obtain ⟨x6, e6⟩ : ∃ y, x5 + x5 / 4294967296 = y := ⟨_, rfl⟩
  rw [e6] at H6 c4 c5
  have H7 := and127 x6 (by omega)
  rw [c5] at H7
  have K1 := Lib.hid H1
  have K2 := Lib.hid H2
  have K3 := Lib.hid H3
  have K4 := Lib.hid H4
  have K5 := Lib.hid H5
  have K6 := Lib.hid H6
  have K7 := Lib.hid H7
  clear H1 H2 H3 H4 H5 H6 H7 e1 e2 e3 e4 e5 e6 hB c1 c2 c3 c4 c5 b1 b2 hu
  go_enter Try.func30, Try.ntmps30
  go_wp2_with fail
  go_ret
  refine ⟨?_, rfl⟩
  simp only [K1.out, K2.out, K3.out, K4.out, K5.out, K6.out]
  exact ret_int K7.out

theorem cnt_add (g : Nat → Bool) (a : Nat) : ∀ b, cnt g (a + b) = cnt g a + cnt (fun j => g (a + j)) b
  | 0 => rfl
  | b + 1 => by
    show cnt g (a + b) + (if g (a + b) = true then 1 else 0) = cnt g a + (cnt (fun j => g (a + j)) b + (if g (a + b) = true then 1 else 0))
    rw [cnt_add g a b, Nat.add_assoc]
theorem cnt_congr {g h : Nat → Bool} : ∀ n, (∀ j, j < n → g j = h j) → cnt g n = cnt h n
  | 0, _ => rfl
  | n + 1, e => by rw [cnt, cnt, cnt_congr n (fun j hj => e j (by omega)), e n (by omega)]
theorem cnt_none {g : Nat → Bool} : ∀ n, (∀ j, j < n → g j = false) → cnt g n = 0
  | 0, _ => rfl
  | n + 1, e => by rw [cnt, cnt_none n (fun j hj => e j (by omega)), e n (by omega)]; rfl
theorem cnt_word (y : List Nat) (k : Nat) : cnt (bt y) (64 * (k + 1)) = cnt (bt y) (64 * k) + cnt (wd y k).testBit 64 := by
  rw [show 64 * (k + 1) = 64 * k + 64 by omega, cnt_add]
  congr 1
  apply cnt_congr
  intro j hj
  rw [bt_wd, show (64 * k + j) / 64 = k by omega, show (64 * k + j) % 64 = j by omega]
theorem cnt_fit {x y : List Nat} {N W : Nat} (hN : N ≤ 64 * W) (h : ∀ j, bt y j = (decide (j < 64 * W) && (decide (j < N) && bt x j))) : cnt (bt y) (64 * W) = cnt (bt x) N := by
  have e : 64 * W = N + (64 * W - N) := by omega
  rw [e, cnt_add, cnt_none (g := fun j => bt y (N + j)) _ (fun j _ => by rw [h, decide_eq_false (show ¬ N + j < N by omega), Bool.false_and, Bool.and_false]), Nat.add_zero]
  apply cnt_congr
  intro j hj
  rw [h, decide_eq_true hj, decide_eq_true (show j < 64 * W by omega), Bool.true_and, Bool.true_and]

def OnesRel (y : List Nat) (w1 : World) (s i : Value) (wr : World) : Prop := ∃ k : Nat, k ≤ y.length ∧ i = .int .i64 (k : Int) ∧ s = .int .i64 (cnt (bt y) (64 * k) : Nat) ∧ w1 = wr

set_option maxRecDepth 100000 in
set_option maxHeartbeats 1600000 in
theorem pcount : CountOK := by
  intro A m c x n w hm hb hc hcm hI hr hx
  have HFIT := Lib.hid (pfit A m c x n w hm hb hc hcm hI hr hx)
  have hWl := wds_le n
  have HWN := Lib.hid (wds_wid n)
  clear hm hb hc hcm hI hr hx
  generalize wds n = W at *
  go_enter Try.func20, Try.ntmps20
  go_wp2_with fail
  refine HFIT.out.mono ?_
  rintro e w1 ⟨v, y, rfl, hy, wy, b_y, oy, hbl⟩
  have HQ := Lib.hid (cnt_fit HWN.out b_y)
  obtain ⟨Y, cY, rfl, _, _, rY, _⟩ := own_slice oy
  subst hy
  clear HFIT HWN b_y oy
  go_wp2_with fail
  go_loopw [5, 12] (fun s i wr => OnesRel y w1 s i wr) (fun _ i _ => y.length - (intOf i).toNat)
  case atStart => exact ⟨0, Nat.zero_le _, rfl, rfl, rfl⟩
  case round =>
    obtain ⟨k, hk, rfl, rfl, rfl⟩ := hrel
    have hcl := cnt_le (bt y) (64 * k)
    by_cases hlt : k < y.length
    · obtain ⟨g, o, rfl, hcell⟩ := rY.word hlt
      have hu : y[k] < 18446744073709551616 := wy _ (List.getElem_mem hlt)
      have e1 := cnt_word y k
      rw [← wd_in hlt] at e1
      generalize y[k] = u at *
      have hcu := cnt_le u.testBit 64
      have HO := Lib.hid (onesCount u w1 hu)
      have R : OnesRel y w1 (.int .i64 (cnt (bt y) (64 * k) + cnt u.testBit 64 : Nat)) (.int .i64 (k + 1 : Nat)) w1 := ⟨k + 1, by omega, rfl, by rw [e1], rfl⟩
      clear e1
      generalize cnt (bt y) (64 * k) = N at *
      generalize cnt u.testBit 64 = M at *
      go_wp2_with fail
      refine HO.out.mono ?_
      rintro e w2 ⟨rfl, rfl⟩
      clear HO
      go_wp2_with fail
      go_roundw
      case rel => first | exact R | ((repeat apply Exists.intro); exact ⟨R, rfl⟩)
      case measure => simp [intOf]; omega
    · have hkl : k = y.length := by omega
      subst hkl
      rw [HQ.out]
      go_wp2_with fail
      go_ret
      exact ⟨rfl, hbl⟩

end Go.Proofs.Ythmfolekohomiaa
