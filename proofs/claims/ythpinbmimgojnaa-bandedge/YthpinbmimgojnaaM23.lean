/-
  Words and contracts that the proof leans on.
-/
import Derived.Test.YthpinbmimgojnaaM17
import Derived.Test.YthpinbmimgojnaaM22
namespace Go.Proofs.Ythpinbmimgojnaa
open Go.RowKit

/-- Cells of whatever numbers. -/
def clI (n m k : Int) : Nat := if 0 ≤ n ∧ n ≤ 1048576 ∧ 0 ≤ m ∧ m ≤ 1048576 ∧ 0 ≤ k then clQ n.toNat m.toNat k.toNat else 0
theorem clI_out {n m k : Int} (h : n < 0 ∨ 1048576 < n ∨ m < 0 ∨ 1048576 < m ∨ k < 0) : clI n m k = 0 := by
  unfold clI
  rw [if_neg (by omega)]
theorem clI_in (n m k : Nat) (hn : n ≤ 1048576) (hm : m ≤ 1048576) : clI n m k = clQ n m k := by
  unfold clI
  rw [if_pos (by omega)]
  rfl
theorem clQ_less {n m k : Nat} (h : k < apN n m) : clQ n m k = 0 := by
  unfold clQ
  rw [if_pos h]
theorem clQ_le (n m k : Nat) (hn : n ≤ 1048576) (hm : m ≤ 1048576) : clQ n m k ≤ 1099513724929 := by
  have h := Nat.mul_le_mul (show n + 1 ≤ 1048577 by omega) (show m + 1 ≤ 1048577 by omega)
  unfold clQ
  split <;> omega
theorem clQ_sd {n m k : Nat} (h : apN n m ≤ k) : clQ n m k = (apN n m + 1) * (min n m + 1) + sdQ n m k * (2 * min n m + 1 - sdQ n m k) := cl_diag h

set_option maxRecDepth 100000 in
set_option maxHeartbeats 1600000 in
theorem pcells_any (n m k : Int) (w : World) (hk : I64 k) :
    Calls Try.prog 12 #[.int .i64 n, .int .i64 m, .int .i64 k] w fun e w' => e = .returned (.int .i64 (clI n m k : Nat)) ∧ w' = w := by
  obtain ⟨d1, d2⟩ := hk
  by_cases h1 : n < 0
  · rw [clI_out (by omega)]
    go_enter Try.func12, Try.ntmps12
    go_wp2_with fail
    go_ret
    exact ⟨rfl, rfl⟩
  by_cases h2 : 1048576 < n
  · rw [clI_out (by omega)]
    go_enter Try.func12, Try.ntmps12
    go_wp2_with fail
    all_goals (go_ret; exact ⟨rfl, rfl⟩)
  by_cases h3 : m < 0
  · rw [clI_out (by omega)]
    go_enter Try.func12, Try.ntmps12
    go_wp2_with fail
    go_ret
    exact ⟨rfl, rfl⟩
  by_cases h4 : 1048576 < m
  · rw [clI_out (by omega)]
    go_enter Try.func12, Try.ntmps12
    go_wp2_with fail
    go_ret
    exact ⟨rfl, rfl⟩
  obtain ⟨N, rfl⟩ : ∃ N : Nat, n = (N : Int) := ⟨n.toNat, by omega⟩
  obtain ⟨M, rfl⟩ : ∃ M : Nat, m = (M : Int) := ⟨m.toNat, by omega⟩
  have hN : N ≤ 1048576 := by omega
  have hM : M ≤ 1048576 := by omega
  have CA := Lib.hid (fun w => bapart_any N M w hN hM)
  have hDb : apN N M ≤ 1048576 := by unfold apN; omega
  by_cases h5 : k < (apN N M : Nat)
  · have e0 : clI (N : Int) (M : Int) k = 0 := by
      by_cases h6 : k < 0
      · exact clI_out (by omega)
      · obtain ⟨K, rfl⟩ : ∃ K : Nat, k = (K : Int) := ⟨k.toNat, by omega⟩
        rw [clI_in _ _ _ hN hM, clQ_less (by omega)]
    rw [e0]
    generalize apN N M = D at *
    clear e0
    go_enter Try.func12, Try.ntmps12
    go_wp2_with fail
    refine (CA.out _).mono ?_
    rintro e w1 ⟨rfl, rfl⟩
    clear CA
    go_wp2_with fail
    go_ret
    exact ⟨rfl, rfl⟩
  · obtain ⟨K, rfl⟩ : ∃ K : Nat, k = (K : Int) := ⟨k.toNat, by omega⟩
    have CS := Lib.hid (fun w => baside_any N M K w hN hM (by omega) (by omega))
    have e1 := clQ_sd (n := N) (m := M) (k := K) (by omega)
    have e2 := clQ_le N M K hN hM
    have hq : sdQ N M K ≤ min N M := by unfold sdQ; omega
    rw [clI_in _ _ _ hN hM]
    have HQ : Hid (∀ z : Int, z = ((clQ N M K : Nat) : Int) → (Ending.returned (.int .i64 z)) = .returned (.int .i64 ((clQ N M K : Nat) : Int))) := fun z h => by rw [h]
    generalize clQ N M K = X at *
    generalize sdQ N M K = Q at *
    generalize apN N M = D at *
    obtain ⟨S, hS⟩ : ∃ S, min N M = S := ⟨_, rfl⟩
    rw [hS] at e1 hq
    have hSb : S ≤ 1048576 := by omega
    obtain ⟨X1, hX1⟩ : ∃ z, (D + 1) * (S + 1) = z := ⟨_, rfl⟩
    obtain ⟨X2, hX2⟩ : ∃ z, Q * (2 * S + 1 - Q) = z := ⟨_, rfl⟩
    obtain ⟨Y, hY⟩ : ∃ z, 2 * S + 1 - Q = z := ⟨_, rfl⟩
    rw [hX1, hX2] at e1
    rw [hY] at hX2
    have m1 : ((D : Int) + 1) * ((S : Int) + 1) = (X1 : Int) := by rw [← hX1]; simp
    have m2 : (Q : Int) * (Y : Int) = (X2 : Int) := by rw [← hX2]; simp
    have m3 : 2 * (S : Int) + 1 - (Q : Int) = (Y : Int) := by omega
    have r1 : (if N < M then (N : Int) else (M : Int)) = (S : Int) := by split <;> omega
    have r2 : (if M < N then (M : Int) else (N : Int)) = (S : Int) := by split <;> omega
    have hS1 := Lib.hid hS
    clear hX1 hX2 hY
    rcases (show (N < M ∧ N = S) ∨ (M ≤ N ∧ M = S) by omega) with ⟨hlt, rfl⟩ | ⟨hlt, rfl⟩
    all_goals
      clear hS
      go_enter Try.func12, Try.ntmps12
      go_wp2_with fail
      refine (CA.out _).mono ?_
      rintro e w1 ⟨rfl, rfl⟩
      go_wp2_with fail
      refine (CS.out _).mono ?_
      rintro e w1 ⟨rfl, rfl⟩
      go_wp2_with fail
      refine (CA.out _).mono ?_
      rintro e w1 ⟨rfl, rfl⟩
      clear CA CS
      go_wp2_with fail
      go_ret
      exact ⟨HQ.out _ (by first | omega | (split <;> omega)), rfl⟩

theorem rowC_le (f : Nat → Bool) : ∀ j, rowC f j ≤ j
  | 0 => Nat.le_refl _
  | j + 1 => by
    have := rowC_le f j
    show rowC f j + _ ≤ _
    split <;> omega
theorem tabC_le (f : Nat → Nat → Bool) (M : Nat) : ∀ i, tabC f M i ≤ i * M
  | 0 => by simp [tabC]
  | i + 1 => by
    have h1 := tabC_le f M i
    have h2 := rowC_le (f i) M
    rw [Nat.succ_mul]
    show tabC f M i + _ ≤ _
    omega
theorem rapart_any (N M : Nat) (w : World) (hN : N ≤ 1048576) (hM : M ≤ 1048576) :
    Calls Try.prog 26 #[.int .i64 (N : Int), .int .i64 (M : Int)] w fun e w' => e = .returned (.int .i64 (apN N M : Nat)) ∧ w' = w :=
  apart_any N M (apN N M) w hN hM (by unfold apN; omega)
/-- The heads of both loops. -/
def RcRel (n m k : Nat) (w : World) (c i : Value) (wr : World) : Prop :=
  ∃ a : Nat, a ≤ n + 1 ∧ i = .int .i64 (a : Int) ∧ c = .int .i64 (tabC (inB n m k) (m + 1) a : Nat) ∧ wr = w
def RdRel (n m k a T : Nat) (w : World) (c j : Value) (wr : World) : Prop :=
  ∃ b C : Nat, b ≤ m + 1 ∧ j = .int .i64 (b : Int) ∧ c = .int .i64 (C : Int) ∧ Hid (T + rowC (inB n m k a) b = C) ∧ wr = w

set_option maxRecDepth 100000 in
set_option maxHeartbeats 1600000 in
theorem rcells_any (n m k : Int) (w : World) (hk : I64 k) :
    Calls Try.prog 13 #[.int .i64 n, .int .i64 m, .int .i64 k] w fun e w' => e = .returned (.int .i64 (clI n m k : Nat)) ∧ w' = w := by
  obtain ⟨d1, d2⟩ := hk
  by_cases h1 : n < 0
  · rw [clI_out (by omega)]
    go_enter Try.func13, Try.ntmps13
    go_wp2_with fail
    go_ret
    exact ⟨rfl, rfl⟩
  by_cases h3 : m < 0
  · rw [clI_out (by omega)]
    go_enter Try.func13, Try.ntmps13
    go_wp2_with fail
    all_goals (go_ret; exact ⟨rfl, rfl⟩)
  by_cases h2 : 1048576 < n
  · rw [clI_out (by omega)]
    go_enter Try.func13, Try.ntmps13
    go_wp2_with fail
    all_goals (go_ret; exact ⟨rfl, rfl⟩)
  by_cases h4 : 1048576 < m
  · rw [clI_out (by omega)]
    go_enter Try.func13, Try.ntmps13
    go_wp2_with fail
    all_goals (go_ret; exact ⟨rfl, rfl⟩)
  by_cases h5 : k < 0
  · rw [clI_out (by omega)]
    go_enter Try.func13, Try.ntmps13
    go_wp2_with fail
    all_goals (go_ret; exact ⟨rfl, rfl⟩)
  obtain ⟨N, rfl⟩ : ∃ N : Nat, n = (N : Int) := ⟨n.toNat, by omega⟩
  obtain ⟨M, rfl⟩ : ∃ M : Nat, m = (M : Int) := ⟨m.toNat, by omega⟩
  obtain ⟨K, rfl⟩ : ∃ K : Nat, k = (K : Int) := ⟨k.toNat, by omega⟩
  have hN : N ≤ 1048576 := by omega
  have hM : M ≤ 1048576 := by omega
  have HC : Hid (clI N M K = tabC (inB N M K) (M + 1) (N + 1)) := by
    show _ = _
    rw [clI_in _ _ _ hN hM, ← cl_is]
    rfl
  generalize clI N M K = X at *
  go_enter Try.func13, Try.ntmps13
  go_wp2_with fail
  go_loopw [7, 8] (fun c i wr => RcRel N M K w c i wr) (fun _ i _ => N + 1 - (intOf i).toNat)
  case atStart => exact ⟨0, Nat.zero_le _, rfl, rfl, rfl⟩
  case round =>
    obtain ⟨a, ha, rfl, rfl, rfl⟩ := hrel
    have hb1 := tabC_le (inB N M K) (M + 1) a
    by_cases hlt : a ≤ N
    · have hb2 := Nat.mul_le_mul (show a + 1 ≤ 1048577 by omega) (show M + 1 ≤ 1048577 by omega)
      rw [Nat.succ_mul] at hb2
      have HX : Hid (tabC (inB N M K) (M + 1) (a + 1) = tabC (inB N M K) (M + 1) a + rowC (inB N M K a) (M + 1)) := rfl
      have hI : Hid (RdRel N M K a (tabC (inB N M K) (M + 1) a) wr (.int .i64 (tabC (inB N M K) (M + 1) a : Nat)) (.int .i64 0) wr) := ⟨0, _, Nat.zero_le _, rfl, rfl, rfl, rfl⟩
      have HL : Hid (∀ b, b ≤ M → tabC (inB N M K) (M + 1) a + rowC (inB N M K a) b < 2000000000000) := fun b hb => by
        have := rowC_le (inB N M K a) b
        omega
      generalize tabC (inB N M K) (M + 1) a = T at *
      clear hb1 hb2
      go_wp2_with fail
      go_loopw [7, 9] (fun c j wr' => RdRel N M K a T wr c j wr') (fun _ j _ => M + 1 - (intOf j).toNat)
      case atStart => exact hI.out
      case round =>
        clear hI
        obtain ⟨b, C, hb, rfl, rfl, HT, rfl⟩ := hrel
        by_cases hlb : b ≤ M
        · have hCb : C < 2000000000000 := by rw [← HT.out]; exact HL.out b hlb
          obtain ⟨P, hP⟩ : ∃ z, N - a = z := ⟨_, rfl⟩
          obtain ⟨Q, hQ⟩ : ∃ z, M - b = z := ⟨_, rfl⟩
          have CA := Lib.hid (fun w => rapart_any a b w (by omega) (by omega))
          have CB := Lib.hid (fun w => rapart_any P Q w (by omega) (by omega))
          have e1 : (N : Int) - (a : Int) = (P : Int) := by omega
          have e2 : (M : Int) - (b : Int) = (Q : Int) := by omega
          have hd1 : apN a b ≤ 1048577 := by unfold apN; omega
          have hd2 : apN P Q ≤ 1048577 := by unfold apN; omega
          have HB : Hid (inB N M K a b = decide (apN a b + apN P Q ≤ K)) := by
            show _ = _
            unfold inB
            rw [hP, hQ]
          have HN : Hid (∀ z, z = (if inB N M K a b = true then C + 1 else C) → Hid (T + rowC (inB N M K a) (b + 1) = z)) := fun z hz => by
            show T + (rowC (inB N M K a) b + if inB N M K a b = true then 1 else 0) = z
            have := HT.out
            rw [hz]
            split <;> omega
          clear hP hQ HT HL HX
          generalize inB N M K a b = bb at *
          generalize apN a b = D1 at *
          generalize apN P Q = D2 at *
          have hbb := HB.out
          by_cases hdd : D1 + D2 ≤ K
          · rw [decide_eq_true hdd] at hbb
            subst hbb
            go_wp2_with fail
            refine (CA.out _).mono ?_
            rintro e w1 ⟨rfl, rfl⟩
            go_wp2_with fail
            refine (CB.out _).mono ?_
            rintro e w1 ⟨rfl, rfl⟩
            have R : Hid (RdRel N M K a T w1 (.int .i64 ((C + 1 : Nat) : Int)) (.int .i64 ((b + 1 : Nat) : Int)) w1) := ⟨b + 1, C + 1, by omega, rfl, rfl, HN.out _ (by simp), rfl⟩
            clear CA CB HN HB
            go_wp2_with fail
            go_roundw
            case rel => first | exact R.out | ((repeat apply Exists.intro); exact ⟨R.out, rfl⟩)
            case measure => simp [intOf]; omega
          · rw [decide_eq_false hdd] at hbb
            subst hbb
            go_wp2_with fail
            refine (CA.out _).mono ?_
            rintro e w1 ⟨rfl, rfl⟩
            go_wp2_with fail
            refine (CB.out _).mono ?_
            rintro e w1 ⟨rfl, rfl⟩
            have R : Hid (RdRel N M K a T w1 (.int .i64 (C : Int)) (.int .i64 ((b + 1 : Nat) : Int)) w1) := ⟨b + 1, C, by omega, rfl, rfl, HN.out _ (by simp), rfl⟩
            clear CA CB HN HB
            go_wp2_with fail
            go_roundw
            case rel => first | exact R.out | ((repeat apply Exists.intro); exact ⟨R.out, rfl⟩)
            case measure => simp [intOf]; omega
        · obtain rfl : b = M + 1 := by omega
          have R : Hid (∀ w, RcRel N M K w (.int .i64 (C : Int)) (.int .i64 ((a + 1 : Nat) : Int)) w) := fun w => ⟨a + 1, by omega, rfl, by rw [HX.out, HT.out], rfl⟩
          clear HT HX HL
          go_wp2_with fail
          go_roundw
          case rel => first | exact R.out _ | ((repeat apply Exists.intro); exact ⟨R.out _, rfl⟩)
          case measure => simp [intOf]; omega
    · obtain rfl : a = N + 1 := by omega
      rw [← HC.out]
      clear hb1
      go_wp2_with fail
      go_ret
      exact ⟨rfl, rfl⟩

theorem bndS_ge (f : Nat → Nat) (d k : Nat) : f k ≤ bndS f d k := by
  by_cases h : k < d
  · rw [bndS_more h]
    omega
  · rw [bndS_last (by omega)]
    exact Nat.le_refl _
/-- All bounds that are tried, together. -/
theorem bnd_small {n m d : Nat} (hn : n ≤ 1048576) (hm : m ≤ 1048576) (hd : d ≤ 2097152) : bndS (clQ n m) d (apN n m) ≤ 2305848506776027137 := by
  have h := bndS_le (f := clQ n m) (d := d) (M := 1099513724929) (fun k => clQ_le n m k hn hm) 2097152 (apN n m) (by omega)
  omega
def RbRel (f : Nat → Nat) (d X : Nat) (w : World) (k c : Value) (wr : World) : Prop :=
  ∃ K C : Nat, k = .int .i64 (K : Int) ∧ c = .int .i64 (C : Int) ∧ K ≤ 4194305 ∧ C ≤ X ∧ Hid (C + bndS f d K = X + f K) ∧ wr = w

set_option maxRecDepth 100000 in
set_option maxHeartbeats 1600000 in
theorem rbands_any (N M d : Nat) (w : World) (hN : N ≤ 1048576) (hM : M ≤ 1048576) (hd : d ≤ 2097152) :
    Calls Try.prog 18 #[.int .i64 (N : Int), .int .i64 (M : Int), .int .i64 (d : Int)] w fun e w' => e = .returned (.int .i64 (bndS (clQ N M) d (apN N M) : Nat)) ∧ w' = w := by
  have CA := Lib.hid (fun w => rapart_any N M w hN hM)
  have CC : Hid (∀ (K : Nat) w, K ≤ 4194305 → Calls Try.prog 13 #[.int .i64 (N : Int), .int .i64 (M : Int), .int .i64 (K : Int)] w fun e w' => e = .returned (.int .i64 (clQ N M K : Nat)) ∧ w' = w) := fun K w hK => by
    have := rcells_any N M K w ⟨by omega, by omega⟩
    rw [clI_in _ _ _ hN hM] at this
    exact this
  have hX := bnd_small hN hM hd
  have hAb : apN N M ≤ 1048576 := by unfold apN; omega
  have HI := Lib.hid (bndS_ge (clQ N M) d (apN N M))
  generalize hf : clQ N M = f at *
  have HL : Hid (∀ K, f K ≤ 1099513724929) := fun K => by rw [← hf]; exact clQ_le N M K hN hM
  have hXX : Hid (bndS f d (apN N M) = bndS f d (apN N M)) := rfl
  obtain ⟨X, hXe⟩ : ∃ X, bndS f d (apN N M) = X := ⟨_, rfl⟩
  rw [hXe] at hX HI ⊢
  have HXe := Lib.hid hXe
  clear hXX hXe hf
  generalize apN N M = A at *
  go_enter Try.func18, Try.ntmps18
  go_wp2_with fail
  refine (CA.out _).mono ?_
  rintro e w1 ⟨rfl, rfl⟩
  clear CA
  go_wp2_with fail
  refine (CC.out A _ (by omega)).mono ?_
  rintro e w1 ⟨rfl, rfl⟩
  have hI : Hid (RbRel f d X w1 (.int .i64 (A : Int)) (.int .i64 (f A : Nat)) w1) := ⟨A, f A, rfl, rfl, by omega, HI.out, by rw [HXe.out]; show _ = _; omega, rfl⟩
  clear HXe HI
  generalize f A = FA at *
  go_wp2_with fail
  go_loopw [7, 8] (fun k c wr => RbRel f d X w1 k c wr) (fun k _ _ => d - (intOf k).toNat)
  case atStart => exact hI.out
  case round =>
    clear hI
    obtain ⟨K, C, rfl, rfl, hK, hC, HS, rfl⟩ := hrel
    by_cases hlt : K < d
    · have CK := Lib.hid (fun w => CC.out (2 * K + 1) w (by omega))
      have h1 := bndS_more (f := f) hlt
      have h2 := bndS_ge f d (2 * K + 1)
      have h3 := HS.out
      have hle : C + f (2 * K + 1) ≤ X := by omega
      have HN : Hid ((C + f (2 * K + 1)) + bndS f d (2 * K + 1) = X + f (2 * K + 1)) := by show _ = _; omega
      clear CC h1 h2 h3 HS
      have R : Hid (RbRel f d X wr (.int .i64 ((2 * K + 1 : Nat) : Int)) (.int .i64 ((C + f (2 * K + 1) : Nat) : Int)) wr) := ⟨2 * K + 1, _, rfl, rfl, by omega, hle, HN, rfl⟩
      clear HN
      generalize f (2 * K + 1) = FK at *
      go_wp2_with fail
      refine (CK.out _).mono ?_
      rintro e w2 ⟨rfl, rfl⟩
      clear CK
      go_wp2_with fail
      go_roundw
      case rel => first | exact R.out | ((repeat apply Exists.intro); exact ⟨R.out, rfl⟩)
      case measure => simp [intOf]; omega
    · have h1 := bndS_last (f := f) (show d ≤ K by omega)
      obtain rfl : C = X := by have := HS.out; omega
      clear CC h1 HS
      go_wp2_with fail
      go_ret
      exact ⟨rfl, rfl⟩

end Go.Proofs.Ythpinbmimgojnaa
