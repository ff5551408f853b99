/-
  The reference's comparing of lists of tokens (tattingref1.SameTokens).
-/
import Derived.Test.YtjfiokcgmmmboaaMemB
import Derived.Deep.QuietTactic
import Derived.BigQuiet
namespace Go.Proofs.Ytjfiokcgmmmboaa
open Go.RowKit

set_option maxHeartbeats 800000 in
theorem same_len (A A' : Option Addr) (n n' c c' : Nat) (vs us : List Value) (ls ms : List (List UInt8)) (w : World) (hn : ls.length = n) (hn' : ms.length = n') (hb : n ≤ 2147483648) (hr : Row w A vs) (hbs : BSs w vs ls) (hr' : Row w A' us) (hbs' : BSs w us ms) (he : ls.length = ms.length) :
    Calls Try.prog 16 #[.slice A n c, .slice A' n' c'] w fun e w' => e = .returned (.bool (decide (ls = ms))) ∧ ∃ q, w' = w.drewN q := by
  subst hn
  subst hn'
  have HE := Lib.hid he
  rw [← he]
  clear he
  go_enter Try.func16, Try.ntmps16
  go_wp2_with fail
  go_loopw [5] (fun i wr => ∃ k q : Nat, k ≤ ls.length ∧ i = .int .i64 k ∧ wr = w.drewN q ∧ Hid (ls.take k = ms.take k)) (fun i _ => ls.length - (intOf i).toNat)
  case atStart => exact ⟨0, 0, Nat.zero_le _, rfl, rfl, by show _ = _; simp⟩
  case round =>
    obtain ⟨k, q, hk, rfl, rfl, hkk⟩ := hrel
    by_cases hlt : k < ls.length
    · have hlt' : k < ms.length := by rw [← HE.out]; exact hlt
      obtain ⟨g, o, B, d, rfl, hc, h1, h2, h3, h4⟩ := hbs.cell hr hlt
      obtain ⟨g', o', B', d', rfl, hc', h1', h2', h3', h4'⟩ := hbs'.cell hr' hlt'
      have cv := fun q => conv_any (P := Try.prog) rfl (h3.drewN q) 24 9 5 d Try.underlying24 Try.underlying5 Try.underlying9
      have cv' := fun q => conv_any (P := Try.prog) rfl (h3'.drewN q) 24 9 5 d' Try.underlying24 Try.underlying5 Try.underlying9
      have HS := Lib.hid (List.take_succ_eq_append_getElem hlt)
      have HS' := Lib.hid (List.take_succ_eq_append_getElem hlt')
      have HX : Hid (ls[k]? = some ls[k]) := List.getElem?_eq_getElem hlt
      have HX' : Hid (ms[k]? = some ms[k]) := List.getElem?_eq_getElem hlt'
      generalize ls[k] = x at *
      generalize ms[k] = y at *
      clear hlt' h1 h2 h3 h4 h1' h2' h3' h4' hbs hbs' hr hr'
      by_cases heq : x = y
      · have hz : (x == y) = true := by simpa using heq
        have HQ := Lib.hid heq
        clear heq
        go_wp2_with fail
        go_quiet (fail)
        go_wp2_with fail
        go_roundw
        case rel => exact ⟨k + 1, _, by omega, by go_num, rfl, by show _ = _; rw [HS.out, HS'.out, hkk.out, HQ.out]⟩
        case measure => simp [intOf]; omega
      · have hz : (x == y) = false := by simpa using heq
        have HQ := Lib.hid heq
        clear heq
        have hfin : decide (ls = ms) = false := by
          rw [decide_eq_false_iff_not]
          intro e
          apply HQ.out
          have e1 := HX.out
          rw [e, HX'.out] at e1
          exact (Option.some.inj e1).symm
        have HF := Lib.hid hfin
        clear hfin
        go_wp2_with fail
        go_quiet (fail)
        go_wp2_with fail
        go_ret
        exact ⟨by rw [HF.out]; rfl, q + nq, by rw [World.drewN_drewN]⟩
    · have hfin : decide (ls = ms) = true := by
        have e := hkk.out
        rw [List.take_of_length_le (by omega), List.take_of_length_le (by rw [← HE.out]; omega)] at e
        simpa using e
      have HF := Lib.hid hfin
      clear hfin
      go_wp2_with fail
      go_ret
      exact ⟨by rw [HF.out]; rfl, _, rfl⟩

theorem same_any (A A' : Option Addr) (n n' c c' : Nat) (vs us : List Value) (ls ms : List (List UInt8)) (w : World) (hn : ls.length = n) (hn' : ms.length = n') (hb : n ≤ 2147483648) (hr : Row w A vs) (hbs : BSs w vs ls) (hr' : Row w A' us) (hbs' : BSs w us ms) :
    Calls Try.prog 16 #[.slice A n c, .slice A' n' c'] w fun e w' => e = .returned (.bool (decide (ls = ms))) ∧ ∃ q, w' = w.drewN q := by
  by_cases he : ls.length = ms.length
  · exact same_len A A' n n' c c' vs us ls ms w hn hn' hb hr hbs hr' hbs' he
  · subst hn
    subst hn'
    have hfin : decide (ls = ms) = false := by
      rw [decide_eq_false_iff_not]
      intro e
      exact he (congrArg List.length e)
    rw [hfin]
    have hz : ((ls.length : Int) != (ms.length : Int)) = true := by simp; omega
    clear hfin he
    go_enter Try.func16, Try.ntmps16
    go_wp2_with fail
    go_ret
    exact ⟨rfl, 0, rfl⟩

end Go.Proofs.Ytjfiokcgmmmboaa
