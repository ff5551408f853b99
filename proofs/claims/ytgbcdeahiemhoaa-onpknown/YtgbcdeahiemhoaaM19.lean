/-
  Words and contracts that the proof leans on.
-/
import Derived.Test.YtgbcdeahiemhoaaM1
import Derived.Test.YtgbcdeahiemhoaaM13
import Derived.Test.YtgbcdeahiemhoaaM18
import Derived.Deep.DeepCutAuto
namespace Go.Proofs.Ytgbcdeahiemhoaa
open Go.RowKit

theorem within_yes (A : Option Addr) (n c i : Nat) (w : World) (hi : i ≤ n) :
    Calls Try.prog 43 #[.slice A n c, .int .i64 (i : Int)] w fun e w' => e = .returned (.bool true) ∧ w' = w := by
  go_enter Try.func43, Try.ntmps43
  go_wp2_with fail
  go_ret
  exact ⟨rfl, rfl⟩
theorem within_no (A : Option Addr) (n c : Nat) (i : Int) (w : World) (hi : ¬ (0 ≤ i ∧ i ≤ (n : Int))) :
    Calls Try.prog 43 #[.slice A n c, .int .i64 i] w fun e w' => e = .returned (.bool false) ∧ w' = w := by
  by_cases h0 : 0 ≤ i
  · have h1 : (n : Int) < i := by omega
    clear hi
    go_enter Try.func43, Try.ntmps43
    go_wp2_with fail
    go_ret
    refine ⟨?_, rfl⟩
    congr 2
    simp
    omega
  · clear hi
    go_enter Try.func43, Try.ntmps43
    go_wp2_with fail
    go_ret
    exact ⟨rfl, rfl⟩

set_option maxHeartbeats 1600000 in
/-- Down at places that are there. -/
theorem down_in (A B : Option Addr) (n m c d i j : Nat) (a b : List Int) (w : World) (hn : a.length = n) (hm : b.length = m) (hc : n ≤ c) (hd : m ≤ d) (hb : n ≤ 1048576) (hb' : m ≤ 1048576) (h1 : Row w A (iv a)) (h2 : Row w B (iv b)) (hi : i ≤ n) (hj : j ≤ m) :
    Calls Try.prog 46 #[.slice A n c, .slice B m d, .int .i64 (i : Int), .int .i64 (j : Int)] w fun e w' => e = .returned (.int .i64 (dnN a b i j : Nat)) ∧ ∃ q, w' = w.drewN q := by
  obtain ⟨A1, c1, s1, _, r1⟩ := slice_from A n c i a w h1 hn hc hi
  obtain ⟨B1, d1, s2, _, r2⟩ := slice_from B m d j b w h2 hm hd hj
  have Q1 : Hid ((a.drop i).length = n - i) := by show _ = _; rw [List.length_drop, hn]
  have Q2 : Hid ((b.drop j).length = m - j) := by show _ = _; rw [List.length_drop, hm]
  have W1 := Lib.hid (fun w => within_yes A n c i w hi)
  have W2 := Lib.hid (fun w => within_yes B m d j w hj)
  have HD : Hid (dnN a b i j = pre (a.drop i) (b.drop j)) := rfl
  generalize dnN a b i j = D at *
  generalize a.drop i = x at *
  generalize b.drop j = y at *
  have hN1 : n - i ≤ 1048576 := by omega
  have hN2 : m - j ≤ 1048576 := by omega
  generalize n - i = N at *
  generalize m - j = M at *
  clear h1 h2 hn hm hb hb' hc hd hi hj
  go_enter Try.func46, Try.ntmps46
  go_wp2_with fail
  refine (W1.out _).mono ?_
  rintro e w1 ⟨rfl, rfl⟩
  go_wp2_with fail
  refine (W2.out _).mono ?_
  rintro e w1 ⟨rfl, rfl⟩
  clear W1 W2
  go_wp2_with fail
  go_quiet (fail)
  go_upto_region 4 with (fail)
  go_cut [9] (fun v wx => v = .int .i64 (min N M : Nat) ∧ wx = w1.drewN nq)
  case first =>
    go_wp2_with fail
    all_goals (go_meet; exact ⟨by congr 1; omega, rfl⟩)
  case rest =>
    obtain ⟨rfl, rfl⟩ := hcut
    have hK1 : min N M ≤ N := Nat.min_le_left _ _
    have hK2 : min N M ≤ M := Nat.min_le_right _ _
    have HK := Lib.hid (Nat.le_refl (min N M))
    generalize hK : min N M = K at *
    have HKK := Lib.hid hK
    clear hK HK
    go_wp2_with fail
    go_loopw [33] (fun i wr => ∃ k q : Nat, k ≤ K ∧ i = .int .i64 k ∧ wr = w1.drewN q ∧ Hid (x.take k = y.take k)) (fun i _ => K - (intOf i).toNat)
    case atStart => exact ⟨0, _, Nat.zero_le _, rfl, rfl, by show _ = _; simp⟩
    case round =>
      obtain ⟨k, q, hk, rfl, rfl, hkk⟩ := hrel
      by_cases hlt : k < K
      · have g1 : k < N := by omega
        have g2 : k < M := by omega
        have l1 : k < x.length := by rw [Q1.out]; exact g1
        have l2 : k < y.length := by rw [Q2.out]; exact g2
        obtain ⟨g, o, rfl, hc⟩ := r1.int l1
        obtain ⟨g', o', rfl, hc'⟩ := r2.int l2
        have HX : Hid (x[k]? = some x[k]) := List.getElem?_eq_getElem l1
        have HX' : Hid (y[k]? = some y[k]) := List.getElem?_eq_getElem l2
        have Z1 := Lib.hid (Nat.le_of_lt l1)
        have Z2 := Lib.hid (Nat.le_of_lt l2)
        generalize x[k] = u at *
        generalize y[k] = v at *
        clear r1 r2 l1 l2 s1 s2
        by_cases heq : u = v
        · subst heq
          have R := Lib.hid (take_next hkk.out HX.out HX'.out)
          go_wp2_with fail
          go_quiet (fail)
          go_wp2_with fail
          go_roundw
          case rel => exact ⟨k + 1, _, by omega, by go_num, rfl, R.out⟩
          case measure => simp [intOf]; omega
        · have hz : (u != v) = true := by simpa using heq
          have HF := Lib.hid (HD.out.trans (pre_stop Z1.out Z2.out hkk.out HX.out HX'.out heq))
          clear heq
          go_wp2_with fail
          go_quiet (fail)
          go_wp2_with fail
          go_ret
          exact ⟨by rw [HF.out]; rfl, _, World.drewN_drewN _ _ _⟩
      · have hkK : k = K := by omega
        have HF := Lib.hid (HD.out.trans (pre_all (by rw [Q1.out]; omega) (by rw [Q2.out]; omega) hkk.out (by rw [Q1.out, Q2.out, HKK.out]; omega)))
        subst hkK
        go_wp2_with fail
        go_ret
        exact ⟨by rw [HF.out]; rfl, _, rfl⟩

set_option maxHeartbeats 1600000 in
/-- Down at whatever places. -/
theorem down_any (A B : Option Addr) (n m c d : Nat) (i j : Int) (a b : List Int) (w : World) (hn : a.length = n) (hm : b.length = m) (hc : n ≤ c) (hd : m ≤ d) (hb : n ≤ 1048576) (hb' : m ≤ 1048576) (h1 : Row w A (iv a)) (h2 : Row w B (iv b)) :
    Calls Try.prog 46 #[.slice A n c, .slice B m d, .int .i64 i, .int .i64 j] w fun e w' => e = .returned (.int .i64 (dnI a b i j)) ∧ ∃ q, w' = w.drewN q := by
  by_cases hi : 0 ≤ i ∧ i ≤ (n : Int)
  · obtain ⟨p, rfl⟩ : ∃ p : Nat, i = (p : Int) := ⟨i.toNat, by omega⟩
    by_cases hj : 0 ≤ j ∧ j ≤ (m : Int)
    · obtain ⟨q, rfl⟩ : ∃ q : Nat, j = (q : Int) := ⟨j.toNat, by omega⟩
      rw [dnI_in (by omega) (by omega)]
      exact down_in A B n m c d p q a b w hn hm hc hd hb hb' h1 h2 (by omega) (by omega)
    · have HD := Lib.hid (dnI_out (a := a) (b := b) (i := (p : Int)) (j := j) (by rw [hn, hm]; omega))
      have W1 := Lib.hid (fun w => within_yes A n c p w (by omega))
      have W2 := Lib.hid (fun w => within_no B m d j w hj)
      clear h1 h2 hn hm hc hd hi hj
      generalize dnI a b p j = D at *
      go_enter Try.func46, Try.ntmps46
      go_wp2_with fail
      refine (W1.out _).mono ?_
      rintro e w1 ⟨rfl, rfl⟩
      go_wp2_with fail
      refine (W2.out _).mono ?_
      rintro e w1 ⟨rfl, rfl⟩
      clear W1 W2
      go_wp2_with fail
      go_ret
      exact ⟨by rw [HD.out]; rfl, 0, rfl⟩
  · have HD := Lib.hid (dnI_out (a := a) (b := b) (i := i) (j := j) (by rw [hn, hm]; omega))
    have W1 := Lib.hid (fun w => within_no A n c i w hi)
    clear h1 h2 hn hm hc hd hi
    generalize dnI a b i j = D at *
    go_enter Try.func46, Try.ntmps46
    go_wp2_with fail
    refine (W1.out _).mono ?_
    rintro e w1 ⟨rfl, rfl⟩
    clear W1
    go_wp2_with fail
    go_ret
    exact ⟨by rw [HD.out]; rfl, 0, rfl⟩

set_option maxHeartbeats 1600000 in
/-- Up at places that are there. -/
theorem up_in (A B : Option Addr) (n m c d i j : Nat) (a b : List Int) (w : World) (hn : a.length = n) (hm : b.length = m) (hb : n ≤ 1048576) (hb' : m ≤ 1048576) (h1 : Row w A (iv a)) (h2 : Row w B (iv b)) (hi : i ≤ n) (hj : j ≤ m) :
    Calls Try.prog 37 #[.slice A n c, .slice B m d, .int .i64 (i : Int), .int .i64 (j : Int)] w fun e w' => e = .returned (.int .i64 (bkN a b i j : Nat)) ∧ ∃ q, w' = w.drewN q := by
  have Q1 := Lib.hid hn
  have Q2 := Lib.hid hm
  have W1 := Lib.hid (fun w => within_yes A n c i w hi)
  have W2 := Lib.hid (fun w => within_yes B m d j w hj)
  clear hn hm
  go_enter Try.func37, Try.ntmps37
  go_wp2_with fail
  refine (W1.out _).mono ?_
  rintro e w1 ⟨rfl, rfl⟩
  go_wp2_with fail
  refine (W2.out _).mono ?_
  rintro e w1 ⟨rfl, rfl⟩
  clear W1 W2
  go_upto_region 3 with (fail)
  go_cut [9] (fun v wx => v = .int .i64 (min i j : Nat) ∧ wx = w1)
  case first =>
    go_wp2_with fail
    all_goals (go_meet; exact ⟨by congr 1; omega, rfl⟩)
  case rest =>
    obtain ⟨rfl, rfl⟩ := hcut
    have hK1 : min i j ≤ i := Nat.min_le_left _ _
    have hK2 : min i j ≤ j := Nat.min_le_right _ _
    have HK := Lib.hid (Nat.le_refl (min i j))
    generalize hK : min i j = K at *
    have HKK := Lib.hid hK
    clear hK HK
    go_wp2_with fail
    go_loopw [25] (fun t wr => ∃ k q : Nat, k ≤ K ∧ t = .int .i64 k ∧ wr = wc.drewN q ∧ Hid (BkTo a b i j k)) (fun t _ => K - (intOf t).toNat)
    case atStart => exact ⟨0, 0, Nat.zero_le _, rfl, rfl, bk_zero _ _ _ _⟩
    case round =>
      obtain ⟨k, q, hk, rfl, rfl, hkk⟩ := hrel
      by_cases hlt : k < K
      · have i1 : (i : Int) - 1 - k = (i - k - 1 : Nat) := by omega
        have i2 : (j : Int) - 1 - k = (j - k - 1 : Nat) := by omega
        have j1 : i - k - 1 < n := by omega
        have j2 : j - k - 1 < m := by omega
        have l1 : i - k - 1 < a.length := by rw [Q1.out]; exact j1
        have l2 : j - k - 1 < b.length := by rw [Q2.out]; exact j2
        obtain ⟨g, o, rfl, hc⟩ := h1.int l1
        obtain ⟨g', o', rfl, hc'⟩ := h2.int l2
        have HX : Hid (a[i - k - 1]? = some a[i - k - 1]) := List.getElem?_eq_getElem l1
        have HX' : Hid (b[j - k - 1]? = some b[j - k - 1]) := List.getElem?_eq_getElem l2
        have Z1 := Lib.hid (show i ≤ a.length by rw [Q1.out]; exact hi)
        have Z2 := Lib.hid (show j ≤ b.length by rw [Q2.out]; exact hj)
        have Z3 := Lib.hid (show k < i by omega)
        have Z4 := Lib.hid (show k < j by omega)
        generalize a[i - k - 1] = u at *
        generalize b[j - k - 1] = v at *
        clear h1 h2 l1 l2
        by_cases heq : u = v
        · subst heq
          have R := Lib.hid (bk_more Z1.out Z2.out hkk.out Z3.out Z4.out HX.out HX'.out)
          clear HX HX'
          generalize i - k - 1 = e1 at *
          generalize j - k - 1 = e2 at *
          go_wp2_with fail
          go_quiet (fail)
          go_wp2_with fail
          go_roundw
          case rel => exact ⟨k + 1, _, by omega, by go_num, rfl, R.out⟩
          case measure => simp [intOf]; omega
        · have hz : (u != v) = true := by simpa using heq
          have HF := Lib.hid (bk_stop Z1.out Z2.out hkk.out fun _ _ x y hx hy => by rw [HX.out] at hx; rw [HX'.out] at hy; cases hx; cases hy; exact heq)
          clear heq HX HX'
          generalize i - k - 1 = e1 at *
          generalize j - k - 1 = e2 at *
          go_wp2_with fail
          go_quiet (fail)
          go_wp2_with fail
          go_ret
          exact ⟨by rw [HF.out]; rfl, _, World.drewN_drewN _ _ _⟩
      · have hkK : k = K := by omega
        have HF := Lib.hid (bk_stop (by rw [Q1.out]; exact hi) (by rw [Q2.out]; exact hj) hkk.out (fun h1 h2 => by rw [hkK, ← HKK.out] at h1 h2; omega))
        subst hkK
        go_wp2_with fail
        go_ret
        exact ⟨by rw [HF.out]; rfl, _, rfl⟩

set_option maxHeartbeats 1600000 in
/-- Up at whatever places. -/
theorem up_any (A B : Option Addr) (n m c d : Nat) (i j : Int) (a b : List Int) (w : World) (hn : a.length = n) (hm : b.length = m) (hb : n ≤ 1048576) (hb' : m ≤ 1048576) (h1 : Row w A (iv a)) (h2 : Row w B (iv b)) :
    Calls Try.prog 37 #[.slice A n c, .slice B m d, .int .i64 i, .int .i64 j] w fun e w' => e = .returned (.int .i64 (bkI a b i j)) ∧ ∃ q, w' = w.drewN q := by
  by_cases hi : 0 ≤ i ∧ i ≤ (n : Int)
  · obtain ⟨p, rfl⟩ : ∃ p : Nat, i = (p : Int) := ⟨i.toNat, by omega⟩
    by_cases hj : 0 ≤ j ∧ j ≤ (m : Int)
    · obtain ⟨q, rfl⟩ : ∃ q : Nat, j = (q : Int) := ⟨j.toNat, by omega⟩
      rw [bkI_in (by omega) (by omega)]
      exact up_in A B n m c d p q a b w hn hm hb hb' h1 h2 (by omega) (by omega)
    · have HD := Lib.hid (bkI_out (a := a) (b := b) (i := (p : Int)) (j := j) (by rw [hn, hm]; omega))
      have W1 := Lib.hid (fun w => within_yes A n c p w (by omega))
      have W2 := Lib.hid (fun w => within_no B m d j w hj)
      clear h1 h2 hn hm hi hj
      generalize bkI a b p j = D at *
      go_enter Try.func37, Try.ntmps37
      go_wp2_with fail
      refine (W1.out _).mono ?_
      rintro e w1 ⟨rfl, rfl⟩
      go_wp2_with fail
      refine (W2.out _).mono ?_
      rintro e w1 ⟨rfl, rfl⟩
      clear W1 W2
      go_wp2_with fail
      go_ret
      exact ⟨by rw [HD.out]; rfl, 0, rfl⟩
  · have HD := Lib.hid (bkI_out (a := a) (b := b) (i := i) (j := j) (by rw [hn, hm]; omega))
    have W1 := Lib.hid (fun w => within_no A n c i w hi)
    clear h1 h2 hn hm hi
    generalize bkI a b i j = D at *
    go_enter Try.func37, Try.ntmps37
    go_wp2_with fail
    refine (W1.out _).mono ?_
    rintro e w1 ⟨rfl, rfl⟩
    clear W1
    go_wp2_with fail
    go_ret
    exact ⟨by rw [HD.out]; rfl, 0, rfl⟩

set_option maxHeartbeats 1600000 in
/-- Slide on whatever diagonal. -/
theorem slide_any (A B : Option Addr) (n m c d : Nat) (k j : Int) (a b : List Int) (w : World) (hn : a.length = n) (hm : b.length = m) (hc : n ≤ c) (hd : m ≤ d) (hb : n ≤ 1048576) (hb' : m ≤ 1048576) (h1 : Row w A (iv a)) (h2 : Row w B (iv b)) :
    Calls Try.prog 42 #[.slice A n c, .slice B m d, .int .i64 k, .int .i64 j] w fun e w' => e = .returned (.int .i64 (slI a b k j)) ∧ ∃ q, w' = w.drewN q := by
  by_cases hj : 0 ≤ j ∧ j ≤ (m : Int)
  · obtain ⟨q, rfl⟩ : ∃ q : Nat, j = (q : Int) := ⟨j.toNat, by omega⟩
    have W1 := Lib.hid (fun w => within_yes B m d q w (by omega))
    by_cases hk : (q : Int) < k
    · have HD := Lib.hid (slI_out (a := a) (b := b) (k := k) (j := (q : Int)) (by rw [hn, hm]; omega))
      generalize slI a b k q = D at *
      clear h1 h2 hn hm hc hd
      go_enter Try.func42, Try.ntmps42
      go_wp2_with fail
      refine (W1.out _).mono ?_
      rintro e w1 ⟨rfl, rfl⟩
      clear W1
      go_wp2_with fail
      go_ret
      exact ⟨by rw [HD.out]; rfl, 0, rfl⟩
    · by_cases hk' : k < (q : Int) - (n : Int)
      · have HD := Lib.hid (slI_out (a := a) (b := b) (k := k) (j := (q : Int)) (by rw [hn, hm]; omega))
        generalize slI a b k q = D at *
        clear h1 h2 hn hm hc hd
        go_enter Try.func42, Try.ntmps42
        go_wp2_with fail
        refine (W1.out _).mono ?_
        rintro e w1 ⟨rfl, rfl⟩
        clear W1
        go_wp2_with fail
        go_ret
        exact ⟨by rw [HD.out]; rfl, 0, rfl⟩
      · obtain ⟨p, hp⟩ : ∃ p : Nat, (q : Int) - k = (p : Int) := ⟨((q : Int) - k).toNat, by omega⟩
        have HD := Lib.hid (slI_in (a := a) (b := b) (i := p) (q := q) (by omega) (by omega) rfl hp)
        have C := Lib.hid (fun r => down_in A B n m c d p q a b (w.drewN r) hn hm hc hd hb hb' (h1.drewN r) (h2.drewN r) (by omega) (by omega))
        have l1 := (dnN_le a b p q).1
        rw [hn] at l1
        generalize slI a b k q = D at *
        generalize dnN a b p q = N at *
        clear h1 h2 hn hm hc hd
        go_enter Try.func42, Try.ntmps42
        go_wp2_with fail
        refine (W1.out _).mono ?_
        rintro e w1 ⟨rfl, rfl⟩
        clear W1
        go_wp2_with fail
        refine (C.out 0).mono ?_
        rintro e w2 ⟨rfl, r, rfl⟩
        clear C
        go_wp2_with fail
        go_ret
        exact ⟨by rw [HD.out]; go_num, _, rfl⟩
  · have HD := Lib.hid (slI_out (a := a) (b := b) (k := k) (j := j) (by rw [hn, hm]; omega))
    have W1 := Lib.hid (fun w => within_no B m d j w hj)
    clear h1 h2 hn hm hc hd hj
    generalize slI a b k j = D at *
    go_enter Try.func42, Try.ntmps42
    go_wp2_with fail
    refine (W1.out _).mono ?_
    rintro e w1 ⟨rfl, rfl⟩
    clear W1
    go_wp2_with fail
    go_ret
    exact ⟨by rw [HD.out]; rfl, 0, rfl⟩

end Go.Proofs.Ytgbcdeahiemhoaa
