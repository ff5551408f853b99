/-
  Contracts of the reference's Down, Up, Slide.
-/
import Derived.Test.YtdkcgehjokdnoaaSnP
import Derived.Test.YtdkcgehjokdnoaaRefI
import Derived.Test.YtdkcgehjokdnoaaLow
import Derived.BigQuiet
namespace Go.Proofs.Ytdkcgehjokdnoaa
open Go.RowKit

set_option maxHeartbeats 1600000 in
theorem rdown_any (A B : Option Addr) (n m c d : Nat) (i j : Int) (a b : List Int) (w : World) (hn : a.length = n) (hm : b.length = m) (hb : n ≤ 1048576) (hb' : m ≤ 1048576) (h1 : Row w A (iv a)) (h2 : Row w B (iv b)) :
    Calls Try.prog 13 #[.slice A n c, .slice B m d, .int .i64 i, .int .i64 j] w fun e w' => e = .returned (.int .i64 (dnI a b i j)) ∧ ∃ q, w' = w.drewN q := by
  by_cases hi0 : i < 0
  · have HD := Lib.hid (dnI_out (a := a) (b := b) (i := i) (j := j) (by omega))
    generalize dnI a b i j = D at *
    clear h1 h2 hn hm
    go_enter Try.func13, Try.ntmps13
    go_wp2_with fail
    go_ret
    exact ⟨by rw [HD.out]; rfl, 0, rfl⟩
  by_cases hi1 : (n : Int) < i
  · have HD := Lib.hid (dnI_out (a := a) (b := b) (i := i) (j := j) (by omega))
    generalize dnI a b i j = D at *
    clear h1 h2 hn hm
    go_enter Try.func13, Try.ntmps13
    go_wp2_with fail
    go_ret
    exact ⟨by rw [HD.out]; rfl, 0, rfl⟩
  obtain ⟨p, rfl⟩ : ∃ p : Nat, i = (p : Int) := ⟨i.toNat, by omega⟩
  by_cases hj0 : j < 0
  · have HD := Lib.hid (dnI_out (a := a) (b := b) (i := (p : Int)) (j := j) (by omega))
    generalize dnI a b p j = D at *
    clear h1 h2 hn hm
    go_enter Try.func13, Try.ntmps13
    go_wp2_with fail
    go_ret
    exact ⟨by rw [HD.out]; rfl, 0, rfl⟩
  by_cases hj1 : (m : Int) < j
  · have HD := Lib.hid (dnI_out (a := a) (b := b) (i := (p : Int)) (j := j) (by omega))
    generalize dnI a b p j = D at *
    clear h1 h2 hn hm
    go_enter Try.func13, Try.ntmps13
    go_wp2_with fail
    go_ret
    exact ⟨by rw [HD.out]; rfl, 0, rfl⟩
  obtain ⟨q, rfl⟩ : ∃ q : Nat, j = (q : Int) := ⟨j.toNat, by omega⟩
  have hp : p ≤ n := by omega
  have hq : q ≤ m := by omega
  clear hi0 hi1 hj0 hj1
  rw [dnI_in (by omega) (by omega)]
  have Q1 := Lib.hid hn
  have Q2 := Lib.hid hm
  have hle := dnN_le a b p q
  clear hn hm
  go_enter Try.func13, Try.ntmps13
  go_wp2_with fail
  go_loopw [9] (fun t wr => ∃ k r : Nat, p + k ≤ n ∧ q + k ≤ m ∧ t = .int .i64 k ∧ wr = w.drewN r ∧ Hid (DnTo a b p q k)) (fun t _ => n - (intOf t).toNat)
  case atStart => exact ⟨0, 0, by omega, by omega, rfl, rfl, dn_zero _ _ _ _⟩
  case round =>
    obtain ⟨k, r, hk1, hk2, rfl, rfl, hkk⟩ := hrel
    by_cases g1 : p + k < n
    · have t1 : decide ((p : Int) + (k : Int) < (n : Int)) = true := by simp; omega
      by_cases g2 : q + k < m
      · have e1 : (p : Int) + (k : Int) = ((p + k : Nat) : Int) := by omega
        have e2 : (q : Int) + (k : Int) = ((q + k : Nat) : Int) := by omega
        have t2 : decide ((q : Int) + (k : Int) < (m : Int)) = true := by simp; omega
        have l1 : p + k < a.length := by rw [Q1.out]; exact g1
        have l2 : q + k < b.length := by rw [Q2.out]; exact g2
        obtain ⟨g, o, rfl, hc⟩ := h1.int l1
        obtain ⟨g', o', rfl, hc'⟩ := h2.int l2
        have HX : Hid (a[p + k]? = some a[p + k]) := List.getElem?_eq_getElem l1
        have HX' : Hid (b[q + k]? = some b[q + k]) := List.getElem?_eq_getElem l2
        generalize a[p + k] = x at *
        generalize b[q + k] = y at *
        clear h1 h2 l1 l2
        by_cases heq : x = y
        · subst heq
          have R := Lib.hid (dn_more hkk.out HX.out HX'.out)
          clear HX HX'
          generalize p + k = P at *
          generalize q + k = Q at *
          go_wp2_with fail
          go_quiet (fail)
          go_wp2_with fail
          go_roundw
          case rel => exact ⟨k + 1, _, by omega, by omega, by go_num, rfl, R.out⟩
          case measure => simp [intOf]; omega
        · have hz : (x == y) = false := by simpa using heq
          have HF := Lib.hid (dn_stop hkk.out fun u v hu hv => by rw [HX.out] at hu; rw [HX'.out] at hv; cases hu; cases hv; exact heq)
          clear heq HX HX'
          generalize p + k = P at *
          generalize q + k = Q at *
          go_wp2_with fail
          go_quiet (fail)
          go_wp2_with fail
          go_ret
          exact ⟨by rw [HF.out]; rfl, _, World.drewN_drewN _ _ _⟩
      · have HF := Lib.hid (dn_stop hkk.out fun u v _ hv => absurd (List.getElem?_eq_some_iff.1 hv).1 (by rw [Q2.out]; omega))
        have t2 : decide ((q : Int) + (k : Int) < (m : Int)) = false := by simp; omega
        go_wp2_with fail
        go_quiet (fail)
        go_wp2_with fail
        go_ret
        exact ⟨by rw [HF.out]; rfl, _, World.drewN_drewN _ _ _⟩
    · have HF := Lib.hid (dn_stop hkk.out fun u v hu _ => absurd (List.getElem?_eq_some_iff.1 hu).1 (by rw [Q1.out]; omega))
      have t1 : decide ((p : Int) + (k : Int) < (n : Int)) = false := by simp; omega
      go_wp2_with fail
      go_quiet (fail)
      go_wp2_with fail
      go_ret
      exact ⟨by rw [HF.out]; rfl, _, World.drewN_drewN _ _ _⟩

set_option maxHeartbeats 1600000 in
theorem rup_any (A B : Option Addr) (n m c d : Nat) (i j : Int) (a b : List Int) (w : World) (hn : a.length = n) (hm : b.length = m) (hb : n ≤ 1048576) (hb' : m ≤ 1048576) (h1 : Row w A (iv a)) (h2 : Row w B (iv b)) :
    Calls Try.prog 14 #[.slice A n c, .slice B m d, .int .i64 i, .int .i64 j] w fun e w' => e = .returned (.int .i64 (bkI a b i j)) ∧ ∃ q, w' = w.drewN q := by
  by_cases hi0 : i < 0
  · have HD := Lib.hid (bkI_out (a := a) (b := b) (i := i) (j := j) (by omega))
    generalize bkI a b i j = D at *
    clear h1 h2 hn hm
    go_enter Try.func14, Try.ntmps14
    go_wp2_with fail
    go_ret
    exact ⟨by rw [HD.out]; rfl, 0, rfl⟩
  by_cases hi1 : (n : Int) < i
  · have HD := Lib.hid (bkI_out (a := a) (b := b) (i := i) (j := j) (by omega))
    generalize bkI a b i j = D at *
    clear h1 h2 hn hm
    go_enter Try.func14, Try.ntmps14
    go_wp2_with fail
    go_ret
    exact ⟨by rw [HD.out]; rfl, 0, rfl⟩
  obtain ⟨p, rfl⟩ : ∃ p : Nat, i = (p : Int) := ⟨i.toNat, by omega⟩
  by_cases hj0 : j < 0
  · have HD := Lib.hid (bkI_out (a := a) (b := b) (i := (p : Int)) (j := j) (by omega))
    generalize bkI a b p j = D at *
    clear h1 h2 hn hm
    go_enter Try.func14, Try.ntmps14
    go_wp2_with fail
    go_ret
    exact ⟨by rw [HD.out]; rfl, 0, rfl⟩
  by_cases hj1 : (m : Int) < j
  · have HD := Lib.hid (bkI_out (a := a) (b := b) (i := (p : Int)) (j := j) (by omega))
    generalize bkI a b p j = D at *
    clear h1 h2 hn hm
    go_enter Try.func14, Try.ntmps14
    go_wp2_with fail
    go_ret
    exact ⟨by rw [HD.out]; rfl, 0, rfl⟩
  obtain ⟨q, rfl⟩ : ∃ q : Nat, j = (q : Int) := ⟨j.toNat, by omega⟩
  have hp : p ≤ n := by omega
  have hq : q ≤ m := by omega
  clear hi0 hi1 hj0 hj1
  rw [bkI_in (by omega) (by omega)]
  have Q1 := Lib.hid hn
  have Q2 := Lib.hid hm
  have hle := bkN_le a b p q
  clear hn hm
  go_enter Try.func14, Try.ntmps14
  go_wp2_with fail
  go_loopw [9] (fun t wr => ∃ k r : Nat, k ≤ p ∧ k ≤ q ∧ t = .int .i64 k ∧ wr = w.drewN r ∧ Hid (BkTo a b p q k)) (fun t _ => p - (intOf t).toNat)
  case atStart => exact ⟨0, 0, by omega, by omega, rfl, rfl, bk_zero _ _ _ _⟩
  case round =>
    obtain ⟨k, r, hk1, hk2, rfl, rfl, hkk⟩ := hrel
    have Z1 := Lib.hid (show p ≤ a.length by rw [Q1.out]; exact hp)
    have Z2 := Lib.hid (show q ≤ b.length by rw [Q2.out]; exact hq)
    by_cases g1 : k < p
    · have t1 : decide ((0 : Int) < (p : Int) - (k : Int)) = true := by simp; omega
      by_cases g2 : k < q
      · have t2 : decide ((0 : Int) < (q : Int) - (k : Int)) = true := by simp; omega
        have e1 : (p : Int) - (k : Int) - 1 = ((p - k - 1 : Nat) : Int) := by omega
        have e2 : (q : Int) - (k : Int) - 1 = ((q - k - 1 : Nat) : Int) := by omega
        have j1 : p - k - 1 < n := by omega
        have j2 : q - k - 1 < m := by omega
        have l1 : p - k - 1 < a.length := by rw [Q1.out]; exact j1
        have l2 : q - k - 1 < b.length := by rw [Q2.out]; exact j2
        obtain ⟨g, o, rfl, hc⟩ := h1.int l1
        obtain ⟨g', o', rfl, hc'⟩ := h2.int l2
        have HX : Hid (a[p - k - 1]? = some a[p - k - 1]) := List.getElem?_eq_getElem l1
        have HX' : Hid (b[q - k - 1]? = some b[q - k - 1]) := List.getElem?_eq_getElem l2
        generalize a[p - k - 1] = x at *
        generalize b[q - k - 1] = y at *
        clear h1 h2 l1 l2
        by_cases heq : x = y
        · subst heq
          have R := Lib.hid (bk_more Z1.out Z2.out hkk.out g1 g2 HX.out HX'.out)
          clear HX HX'
          generalize p - k - 1 = P at *
          generalize q - k - 1 = Q at *
          go_wp2_with fail
          go_quiet (fail)
          go_wp2_with fail
          go_roundw
          case rel => exact ⟨k + 1, _, by omega, by omega, by go_num, rfl, R.out⟩
          case measure => simp [intOf]; omega
        · have hz : (x == y) = false := by simpa using heq
          have HF := Lib.hid (bk_stop Z1.out Z2.out hkk.out fun _ _ u v hu hv => by rw [HX.out] at hu; rw [HX'.out] at hv; cases hu; cases hv; exact heq)
          clear heq HX HX'
          generalize p - k - 1 = P at *
          generalize q - k - 1 = Q at *
          go_wp2_with fail
          go_quiet (fail)
          go_wp2_with fail
          go_ret
          exact ⟨by rw [HF.out]; rfl, _, World.drewN_drewN _ _ _⟩
      · have HF := Lib.hid (bk_stop Z1.out Z2.out hkk.out fun _ h => absurd h g2)
        have t2 : decide ((0 : Int) < (q : Int) - (k : Int)) = false := by simp; omega
        go_wp2_with fail
        go_quiet (fail)
        go_wp2_with fail
        go_ret
        exact ⟨by rw [HF.out]; rfl, _, World.drewN_drewN _ _ _⟩
    · have HF := Lib.hid (bk_stop Z1.out Z2.out hkk.out fun h => absurd h g1)
      have t1 : decide ((0 : Int) < (p : Int) - (k : Int)) = false := by simp; omega
      go_wp2_with fail
      go_quiet (fail)
      go_wp2_with fail
      go_ret
      exact ⟨by rw [HF.out]; rfl, _, World.drewN_drewN _ _ _⟩

set_option maxHeartbeats 1600000 in
theorem rslide_any (A B : Option Addr) (n m c d : Nat) (k j : Int) (a b : List Int) (w : World) (hn : a.length = n) (hm : b.length = m) (hb : n ≤ 1048576) (hb' : m ≤ 1048576) (h1 : Row w A (iv a)) (h2 : Row w B (iv b)) :
    Calls Try.prog 15 #[.slice A n c, .slice B m d, .int .i64 k, .int .i64 j] w fun e w' => e = .returned (.int .i64 (slI a b k j)) ∧ ∃ q, w' = w.drewN q := by
  by_cases hj0 : j < 0
  · have HD := Lib.hid (slI_out (a := a) (b := b) (k := k) (j := j) (by omega))
    generalize slI a b k j = D at *
    clear h1 h2 hn hm
    go_enter Try.func15, Try.ntmps15
    go_wp2_with fail
    go_ret
    exact ⟨by rw [HD.out]; rfl, 0, rfl⟩
  by_cases hj1 : (m : Int) < j
  · have HD := Lib.hid (slI_out (a := a) (b := b) (k := k) (j := j) (by omega))
    generalize slI a b k j = D at *
    clear h1 h2 hn hm
    go_enter Try.func15, Try.ntmps15
    go_wp2_with fail
    go_ret
    exact ⟨by rw [HD.out]; rfl, 0, rfl⟩
  obtain ⟨q, rfl⟩ : ∃ q : Nat, j = (q : Int) := ⟨j.toNat, by omega⟩
  have hq : q ≤ m := by omega
  clear hj0 hj1
  have C := Lib.hid (fun (p : Nat) (_ : p ≤ n) => rdown_any A B n m c d (p : Int) (q : Int) a b w hn hm hb hb' h1 h2)
  have HI : Hid (∀ p : Nat, p ≤ n → (q : Int) - (p : Int) = k → slI a b k q = (q : Int) + dnI a b p q ∧ 0 ≤ dnI a b p q ∧ dnI a b p q ≤ n) := fun p hp e => by
    rw [slI_in (i := p) (q := q) (by omega) (by omega) rfl (by omega), dnI_in (by omega) (by omega)]
    have := (dnN_le a b p q).1
    exact ⟨by omega, by omega, by omega⟩
  have HO : Hid ((∀ p : Nat, p ≤ n → (q : Int) - (p : Int) ≠ k) → slI a b k q = -1) := fun h => slI_out fun ⟨_, _, h3, h4⟩ => h ((q : Int) - k).toNat (by omega) (by omega)
  generalize slI a b k q = D at *
  clear h1 h2 hn hm
  go_enter Try.func15, Try.ntmps15
  go_wp2_with fail
  go_loopw [9] (fun t wr => ∃ p : Nat, p ≤ n + 1 ∧ t = .int .i64 p ∧ wr = w ∧ Hid (∀ r : Nat, r < p → (q : Int) - (r : Int) ≠ k)) (fun t _ => n + 1 - (intOf t).toNat)
  case atStart => exact ⟨0, Nat.zero_le _, rfl, rfl, fun r h => absurd h (Nat.not_lt_zero _)⟩
  case round =>
    obtain ⟨p, hp, rfl, rfl, hno⟩ := hrel
    by_cases g1 : p ≤ n
    · by_cases he : (q : Int) - (p : Int) = k
      · obtain ⟨d1, d2, d3⟩ := HI.out p g1 he
        have HD := Lib.hid d1
        have Cp := Lib.hid (C.out p g1)
        generalize dnI a b p q = E at *
        clear HI HO hno C d1
        subst he
        go_wp2_with fail
        refine Cp.out.mono ?_
        rintro e w2 ⟨rfl, r, rfl⟩
        clear Cp
        go_wp2_with fail
        go_ret
        exact ⟨by rw [HD.out]; go_num, _, rfl⟩
      · have R : Hid (∀ r : Nat, r < p + 1 → (q : Int) - (r : Int) ≠ k) := fun r hr => by
          by_cases e : r = p
          · rw [e]; exact he
          · exact hno.out r (by omega)
        have hz : ((q : Int) - (p : Int) == k) = false := by simpa using he
        clear hno HI HO C he
        go_wp2_with fail
        go_roundw
        case rel => exact ⟨p + 1, by omega, by go_num, by trivial, R.out⟩
        case measure => simp [intOf]; omega
    · have HD := Lib.hid (HO.out fun r hr => hno.out r (by omega))
      clear hno HI HO C
      go_wp2_with fail
      go_ret
      exact ⟨by rw [HD.out]; rfl, 0, rfl⟩

end Go.Proofs.Ytdkcgehjokdnoaa
