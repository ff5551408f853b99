/-
  Contracts of the reference's Ends and Mid.
-/
import Derived.Test.YtambidlenfnbiaaTr2
import Derived.Deep.CutBlock
import Derived.Deep.DeepCutAuto
namespace Go.Proofs.Ytambidlenfnbiaa
open Go.RowKit

theorem drop_rev_take {a : List Int} {p k : Nat} (h : p + k ≤ a.length) : (a.drop p).reverse.take k = a.reverse.take k := by
  rw [List.reverse_drop, List.take_take]
  congr 1
  omega
/-- The stop of the second loop. -/
theorem se_stop {a b : List Int} {k : Nat} (h1 : pe a b + k ≤ a.length) (h2 : pe a b + k ≤ b.length) (h : a.reverse.take k = b.reverse.take k) (hn : pe a b + k < a.length → pe a b + k < b.length → a.reverse[k]? ≠ b.reverse[k]?) : se a b = k := by
  unfold pe at *
  unfold se
  refine suf_at (by rw [List.length_drop]; omega) (by rw [List.length_drop]; omega) (by rw [drop_rev_take h1, drop_rev_take h2, h]) fun g1 g2 e => ?_
  rw [List.length_drop] at g1 g2
  apply hn (by omega) (by omega)
  rw [rev_at (by omega), rev_at (by omega)]
  simp only [List.length_drop, List.getElem_drop] at e
  have e1 : pre a b + (a.length - pre a b - 1 - k) = a.length - 1 - k := by omega
  have e2 : pre a b + (b.length - pre a b - 1 - k) = b.length - 1 - k := by omega
  simp only [e1, e2] at e
  rw [e]

set_option maxHeartbeats 1600000 in
theorem refEnds_any (A B : Option Addr) (n m c d : Nat) (a b : List Int) (w : World) (hn : a.length = n) (hm : b.length = m) (hb : n ≤ 2147483648) (hb' : m ≤ 2147483648) (h1 : Row w A (iv a)) (h2 : Row w B (iv b)) :
    Calls Try.prog 12 #[.slice A n c, .slice B m d] w fun e w' => e = .returned (.tuple #[.int .i64 (pe a b : Int), .int .i64 (se a b : Int)]) ∧ ∃ q, w' = w.drewN q := by
  subst hn
  subst hm
  have hp1 : pe a b ≤ a.length := pre_le_left a b
  have hp2 : pe a b ≤ b.length := pre_le_right a b
  have HS := Lib.hid (fun k => @se_stop a b k)
  have HP : Hid (pre a b = pe a b) := rfl
  generalize pe a b = p at *
  generalize se a b = s at *
  go_enter Try.func12, Try.ntmps12
  go_upto_block 0 with fail
  go_cut [6] (fun v wx => v = .int .i64 (p : Nat) ∧ ∃ q, wx = w.drewN q)
  case first =>
    go_wp2_with fail
    go_loopw [6] (fun i wr => ∃ k q : Nat, k ≤ a.length ∧ k ≤ b.length ∧ i = .int .i64 k ∧ wr = w.drewN q ∧ Hid (a.take k = b.take k)) (fun i _ => a.length - (intOf i).toNat)
    case atStart => exact ⟨0, 0, Nat.zero_le _, Nat.zero_le _, rfl, rfl, by show _ = _; simp⟩
    case round =>
      obtain ⟨k, q, hk1, hk2, rfl, rfl, hkk⟩ := hrel
      by_cases g1 : k < a.length
      · by_cases g2 : k < b.length
        · obtain ⟨g, o, rfl, hc⟩ := h1.int g1
          obtain ⟨g', o', rfl, hc'⟩ := h2.int g2
          have HX : Hid (a[k]? = some a[k]) := List.getElem?_eq_getElem g1
          have HX' : Hid (b[k]? = some b[k]) := List.getElem?_eq_getElem g2
          generalize a[k] = x at *
          generalize b[k] = y at *
          clear h1 h2
          by_cases heq : x = y
          · subst heq
            go_wp2_with fail
            go_quiet (fail)
            go_wp2_with fail
            go_roundw
            case rel => first | exact ⟨k + 1, _, by omega, by omega, by go_num, rfl, by show _ = _; exact take_next hkk.out HX.out HX'.out⟩ | ((repeat apply Exists.intro); exact ⟨⟨k + 1, _, by omega, by omega, by go_num, rfl, by show _ = _; exact take_next hkk.out HX.out HX'.out⟩, rfl⟩)
            case measure => simp [intOf]; omega
          · have hz : (x == y) = false := by simpa using heq
            have HF := Lib.hid (pre_stop hk1 hk2 hkk.out HX.out HX'.out heq)
            clear heq
            go_wp2_with fail
            go_quiet (fail)
            go_wp2_with fail
            go_meet
            exact ⟨by rw [← HP.out, HF.out], q + nq, by rw [World.drewN_drewN]⟩
        · have HF := Lib.hid (pre_all hk1 hk2 hkk.out (by omega))
          have hz : decide ((k : Int) < (b.length : Int)) = false := by simp; omega
          go_wp2_with fail
          go_quiet (fail)
          go_wp2_with fail
          go_meet
          exact ⟨by rw [← HP.out, HF.out], q + nq, by rw [World.drewN_drewN]⟩
      · have HF := Lib.hid (pre_all hk1 hk2 hkk.out (by omega))
        have hz : decide ((k : Int) < (a.length : Int)) = false := by simp; omega
        go_wp2_with fail
        go_quiet (fail)
        go_wp2_with fail
        go_meet
        exact ⟨by rw [← HP.out, HF.out], q + nq, by rw [World.drewN_drewN]⟩
  case rest =>
    obtain ⟨rfl, q0, hq0⟩ := hcut
    have r1 : Row wc A (iv a) := by rw [hq0]; exact h1
    have r2 : Row wc B (iv b) := by rw [hq0]; exact h2
    have HQ := Lib.hid hq0
    clear h1 h2 hq0
    have sb1 : (a.length : Int) - (p : Int) = (a.length - p : Nat) := by omega
    have sb2 : (b.length : Int) - (p : Int) = (b.length - p : Nat) := by omega
    go_wp2_with fail
    go_loopw [7] (fun i wr => ∃ k q : Nat, p + k ≤ a.length ∧ p + k ≤ b.length ∧ i = .int .i64 k ∧ wr = wc.drewN q ∧ Hid (a.reverse.take k = b.reverse.take k)) (fun i _ => a.length - (intOf i).toNat)
    case atStart => exact ⟨0, 0, by omega, by omega, rfl, rfl, by show _ = _; simp⟩
    case round =>
      obtain ⟨k, q, hk1, hk2, rfl, rfl, hkk⟩ := hrel
      by_cases g1 : p + k < a.length
      · by_cases g2 : p + k < b.length
        · have HX : Hid (a.reverse[k]? = some (a[a.length - 1 - k]'(by omega))) := rev_at (by omega)
          have HX' : Hid (b.reverse[k]? = some (b[b.length - 1 - k]'(by omega))) := rev_at (by omega)
          obtain ⟨g, o, rfl, hc⟩ := r1.int (k := a.length - 1 - k) (by omega)
          obtain ⟨g', o', rfl, hc'⟩ := r2.int (k := b.length - 1 - k) (by omega)
          generalize a[a.length - 1 - k] = x at *
          generalize b[b.length - 1 - k] = y at *
          have i1 : (a.length : Int) - 1 - k = (a.length - 1 - k : Nat) := by omega
          have i2 : (b.length : Int) - 1 - k = (b.length - 1 - k : Nat) := by omega
          have j1 : a.length - 1 - k < a.length := by omega
          have j2 : b.length - 1 - k < b.length := by omega
          have l1 : k < a.length - p := by omega
          have l2 : k < b.length - p := by omega
          have l3 : a.length - p ≤ a.length := by omega
          have l4 : b.length - p ≤ b.length := by omega
          have M1 : Hid (a.length - (k + 1) < a.length - k) := by show _ < _; omega
          generalize a.length - 1 - k = u at *
          generalize b.length - 1 - k = v at *
          generalize a.length - p = N at *
          generalize b.length - p = M at *
          clear r1 r2
          by_cases heq : x = y
          · subst heq
            go_wp2_with fail
            go_quiet (fail)
            go_wp2_with fail
            go_roundw
            case rel => first | exact ⟨k + 1, _, by omega, by omega, by go_num, rfl, by show _ = _; exact take_next hkk.out HX.out HX'.out⟩ | ((repeat apply Exists.intro); exact ⟨⟨k + 1, _, by omega, by omega, by go_num, rfl, by show _ = _; exact take_next hkk.out HX.out HX'.out⟩, rfl⟩)
            case measure => have := M1.out; simp [intOf]; omega
          · have hz : (x == y) = false := by simpa using heq
            have HF := Lib.hid (HS.out k hk1 hk2 hkk.out fun _ _ e => heq (by rw [HX.out, HX'.out] at e; exact Option.some.inj e))
            clear heq
            go_wp2_with fail
            go_quiet (fail)
            go_wp2_with fail
            go_ret2
            exact ⟨by rw [HF.out]; rfl, _, by rw [HQ.out, World.drewN_drewN, World.drewN_drewN]⟩
        · have HF := Lib.hid (HS.out k hk1 hk2 hkk.out fun _ h => absurd h g2)
          have l1 : k < a.length - p := by omega
          have l3 : a.length - p ≤ a.length := by omega
          have l4 : b.length - p ≤ b.length := by omega
          have hz : decide ((k : Int) < ((b.length - p : Nat) : Int)) = false := by simp; omega
          have hz' : decide (k < b.length - p) = false := by simp; omega
          generalize a.length - p = N at *
          generalize b.length - p = M at *
          go_wp2_with fail
          go_quiet (fail)
          go_wp2_with fail
          go_ret2
          exact ⟨by rw [HF.out]; rfl, _, by rw [HQ.out, World.drewN_drewN, World.drewN_drewN]⟩
      · have HF := Lib.hid (HS.out k hk1 hk2 hkk.out fun h _ => absurd h g1)
        have l3 : a.length - p ≤ a.length := by omega
        have hz : decide ((k : Int) < ((a.length - p : Nat) : Int)) = false := by simp; omega
        have hz' : decide (k < a.length - p) = false := by simp; omega
        generalize a.length - p = N at *
        go_wp2_with fail
        go_quiet (fail)
        go_wp2_with fail
        go_ret2
        exact ⟨by rw [HF.out]; rfl, _, by rw [HQ.out, World.drewN_drewN, World.drewN_drewN]⟩

end Go.Proofs.Ytambidlenfnbiaa
