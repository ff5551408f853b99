/-
  Contracts of package trim's prefix, suffix and Of, and of the reference's Ends.
-/
import Derived.Test.YtambidlenfnbiaaTrimPure
import Derived.Test.YtambidlenfnbiaaRefI
import Derived.Deep.DeepCutAuto
namespace Go.Proofs.Ytambidlenfnbiaa
open Go.RowKit

theorem take_next {a b : List Int} {k : Nat} {x : Int} (h : a.take k = b.take k) (h1 : a[k]? = some x) (h2 : b[k]? = some x) : a.take (k + 1) = b.take (k + 1) := by
  obtain ⟨g1, e1⟩ := List.getElem?_eq_some_iff.1 h1
  obtain ⟨g2, e2⟩ := List.getElem?_eq_some_iff.1 h2
  rw [List.take_succ_eq_append_getElem g1, List.take_succ_eq_append_getElem g2, h, e1, e2]
theorem pre_stop {a b : List Int} {k : Nat} {x y : Int} (h1 : k ≤ a.length) (h2 : k ≤ b.length) (h : a.take k = b.take k) (e1 : a[k]? = some x) (e2 : b[k]? = some y) (hne : x ≠ y) : pre a b = k :=
  pre_at h1 h2 h fun g1 g2 e => by
    rw [List.getElem?_eq_getElem g1] at e1
    rw [List.getElem?_eq_getElem g2] at e2
    exact hne (by rw [← Option.some.inj e1, ← Option.some.inj e2, e])
theorem pre_all {a b : List Int} {k : Nat} (h1 : k ≤ a.length) (h2 : k ≤ b.length) (h : a.take k = b.take k) (hm : min a.length b.length ≤ k) : pre a b = k :=
  pre_at h1 h2 h fun g1 g2 => absurd hm (by omega)
theorem iv_get {l : List Int} {k : Nat} (hk : k < l.length) : (iv l)[k]'(by simpa [iv] using hk) = .int .i64 l[k] := by simp [iv]
theorem rev_at {a : List Int} {k : Nat} (hk : k < a.length) : a.reverse[k]? = some (a[a.length - 1 - k]'(by omega)) := by
  rw [List.getElem?_reverse hk, List.getElem?_eq_getElem]

set_option maxHeartbeats 800000 in
theorem prefix_any (A B : Option Addr) (n m c d : Nat) (a b : List Int) (w : World) (hn : a.length = n) (hm : b.length = m) (hb : n ≤ 2147483648) (hb' : m ≤ 2147483648) (h1 : Row w A (iv a)) (h2 : Row w B (iv b)) :
    Calls Try.prog 22 #[.slice A n c, .slice B m d] w fun e w' => e = .returned (.int .i64 (pre a b : Int)) ∧ ∃ q, w' = w.drewN q := by
  subst hn
  subst hm
  go_enter Try.func22, Try.ntmps22
  go_upto_region 1 with (fail)
  go_cut [5] (fun v wx => v = .int .i64 (min a.length b.length : Nat) ∧ wx = w)
  case first =>
    go_wp2_with fail
    all_goals (go_meet; exact ⟨by congr 1; omega, rfl⟩)
  case rest =>
    obtain ⟨rfl, rfl⟩ := hcut
    have hK1 : min a.length b.length ≤ a.length := Nat.min_le_left _ _
    have hK2 : min a.length b.length ≤ b.length := Nat.min_le_right _ _
    have HK := Lib.hid (Nat.le_refl (min a.length b.length))
    generalize hK : min a.length b.length = K at *
    have HKK := Lib.hid hK
    clear hK HK
    go_wp2_with fail
    go_loopw [13] (fun i wr => ∃ k q : Nat, k ≤ K ∧ i = .int .i64 k ∧ wr = wc.drewN q ∧ Hid (a.take k = b.take k)) (fun i _ => K - (intOf i).toNat)
    case atStart => exact ⟨0, 0, Nat.zero_le _, rfl, rfl, by show _ = _; simp⟩
    case round =>
      obtain ⟨k, q, hk, rfl, rfl, hkk⟩ := hrel
      by_cases hlt : k < K
      · have g1 : k < a.length := by omega
        have g2 : k < b.length := by omega
        obtain ⟨g, o, rfl, hc⟩ := h1.int g1
        obtain ⟨g', o', rfl, hc'⟩ := h2.int g2
        have HX : Hid (a[k]? = some a[k]) := List.getElem?_eq_getElem g1
        have HX' : Hid (b[k]? = some b[k]) := List.getElem?_eq_getElem g2
        generalize a[k] = x at *
        generalize b[k] = y at *
        clear h1 h2
        by_cases heq : x = y
        · subst heq
          go_wp2_with fail
          go_quiet (fail)
          go_wp2_with fail
          go_roundw
          case rel => exact ⟨k + 1, _, by omega, by go_num, rfl, by show _ = _; exact take_next hkk.out HX.out HX'.out⟩
          case measure => simp [intOf]; omega
        · have hz : (x != y) = true := by simpa using heq
          have HF := Lib.hid (pre_stop (by omega) (by omega) hkk.out HX.out HX'.out heq)
          clear heq
          go_wp2_with fail
          go_quiet (fail)
          go_wp2_with fail
          go_ret
          exact ⟨by rw [HF.out]; rfl, q + nq, by rw [World.drewN_drewN]⟩
      · have HF := Lib.hid (pre_all (by omega) (by omega) hkk.out (by rw [HKK.out]; omega))
        have hkK : k = K := by omega
        subst hkK
        go_wp2_with fail
        go_ret
        exact ⟨by rw [HF.out]; rfl, _, rfl⟩

set_option maxHeartbeats 800000 in
theorem suffix_any (A B : Option Addr) (n m c d : Nat) (a b : List Int) (w : World) (hn : a.length = n) (hm : b.length = m) (hb : n ≤ 2147483648) (hb' : m ≤ 2147483648) (h1 : Row w A (iv a)) (h2 : Row w B (iv b)) :
    Calls Try.prog 23 #[.slice A n c, .slice B m d] w fun e w' => e = .returned (.int .i64 (suf a b : Int)) ∧ ∃ q, w' = w.drewN q := by
  subst hn
  subst hm
  go_enter Try.func23, Try.ntmps23
  go_upto_region 1 with (fail)
  go_cut [5] (fun v wx => v = .int .i64 (min a.length b.length : Nat) ∧ wx = w)
  case first =>
    go_wp2_with fail
    all_goals (go_meet; exact ⟨by congr 1; omega, rfl⟩)
  case rest =>
    obtain ⟨rfl, rfl⟩ := hcut
    have hK1 : min a.length b.length ≤ a.length := Nat.min_le_left _ _
    have hK2 : min a.length b.length ≤ b.length := Nat.min_le_right _ _
    have HK := Lib.hid (Nat.le_refl (min a.length b.length))
    generalize hK : min a.length b.length = K at *
    have HKK := Lib.hid hK
    clear hK HK
    go_wp2_with fail
    go_loopw [13] (fun i wr => ∃ k q : Nat, k ≤ K ∧ i = .int .i64 k ∧ wr = wc.drewN q ∧ Hid (a.reverse.take k = b.reverse.take k)) (fun i _ => K - (intOf i).toNat)
    case atStart => exact ⟨0, 0, Nat.zero_le _, rfl, rfl, by show _ = _; simp⟩
    case round =>
      obtain ⟨k, q, hk, rfl, rfl, hkk⟩ := hrel
      by_cases hlt : k < K
      · have g1 : k < a.length := by omega
        have g2 : k < b.length := by omega
        have HX : Hid (a.reverse[k]? = some (a[a.length - 1 - k]'(by omega))) := rev_at g1
        have HX' : Hid (b.reverse[k]? = some (b[b.length - 1 - k]'(by omega))) := rev_at g2
        obtain ⟨g, o, rfl, hc⟩ := h1.int (k := a.length - 1 - k) (by omega)
        obtain ⟨g', o', rfl, hc'⟩ := h2.int (k := b.length - 1 - k) (by omega)
        generalize a[a.length - 1 - k] = x at *
        generalize b[b.length - 1 - k] = y at *
        have i1 : (a.length : Int) - 1 - k = (a.length - 1 - k : Nat) := by omega
        have i2 : (b.length : Int) - 1 - k = (b.length - 1 - k : Nat) := by omega
        have j1 : a.length - 1 - k < a.length := by omega
        have j2 : b.length - 1 - k < b.length := by omega
        generalize a.length - 1 - k = u at *
        generalize b.length - 1 - k = v at *
        clear h1 h2
        by_cases heq : x = y
        · subst heq
          go_wp2_with fail
          go_quiet (fail)
          go_wp2_with fail
          go_roundw
          case rel => exact ⟨k + 1, _, by omega, by go_num, rfl, by show _ = _; exact take_next hkk.out HX.out HX'.out⟩
          case measure => simp [intOf]; omega
        · have hz : (x != y) = true := by simpa using heq
          have HF := Lib.hid (pre_stop (by simp; omega) (by simp; omega) hkk.out HX.out HX'.out heq)
          clear heq
          go_wp2_with fail
          go_quiet (fail)
          go_wp2_with fail
          go_ret
          exact ⟨by unfold suf; rw [HF.out]; rfl, q + nq, by rw [World.drewN_drewN]⟩
      · have HF := Lib.hid (pre_all (by simp; omega) (by simp; omega) hkk.out (by simp only [List.length_reverse]; rw [HKK.out]; omega))
        have hkK : k = K := by omega
        subst hkK
        go_wp2_with fail
        go_ret
        exact ⟨by unfold suf; rw [HF.out]; rfl, _, rfl⟩

end Go.Proofs.Ytambidlenfnbiaa
