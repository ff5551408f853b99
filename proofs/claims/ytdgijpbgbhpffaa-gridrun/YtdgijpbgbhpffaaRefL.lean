/-
  The reference's comparing of lists of lists of numbers (tattingref1.SameLists).
-/
import Derived.Test.YtdgijpbgbhpffaaIRows
namespace Go.Proofs.Ytdgijpbgbhpffaa
open Go.RowKit

theorem sameInts_quiet (A A' : Option Addr) (n n' c c' q : Nat) (ls ms : List Int) (w : World) (r : Bool) (hn : ls.length = n) (hn' : ms.length = n') (hb : n ≤ 9223372036854775807) (hr : Row w A (iv ls)) (hr' : Row w A' (iv ms)) (hv : decide (ls = ms) = r) :
    Calls Try.prog 27 #[.slice A n c, .slice A' n' c'] (w.drewN q) fun e w'' => e = .returned (.bool r) ∧ ∃ k, w'' = w.drewN k := by
  subst hv
  exact Calls.quiet_of (sameInts_any A A' n n' c c' ls ms (w.drewN q) hn hn' hb hr hr')

set_option maxHeartbeats 800000 in
theorem sameLists_len (A A' : Option Addr) (n n' c c' : Nat) (vs us : List Value) (ls ms : List (List Int)) (w : World) (hn : ls.length = n) (hn' : ms.length = n') (hb : n ≤ 9223372036854775807) (hr : Row w A vs) (hs : ISs w vs ls) (hr' : Row w A' us) (hs' : ISs w us ms) (he : ls.length = ms.length) :
    Calls Try.prog 17 #[.slice A n c, .slice A' n' c'] w fun e w' => e = .returned (.bool (decide (ls = ms))) ∧ ∃ q, w' = w.drewN q := by
  subst hn
  subst hn'
  have HE := Lib.hid he
  rw [← he]
  clear he
  go_enter Try.func17, Try.ntmps17
  go_wp2_with fail
  go_loopw [5] (fun i wr => ∃ k q : Nat, k ≤ ls.length ∧ i = .int .i64 k ∧ wr = w.drewN q ∧ Hid (ls.take k = ms.take k)) (fun i _ => ls.length - (intOf i).toNat)
  case atStart => exact ⟨0, 0, Nat.zero_le _, rfl, rfl, by show _ = _; simp⟩
  case round =>
    obtain ⟨k, q, hk, rfl, hq, hkk⟩ := hrel
    by_cases hlt : k < ls.length
    · have hlt' : k < ms.length := by rw [← HE.out]; exact hlt
      have r1 : Row wr A vs := by rw [hq]; exact hr
      have r2 : Row wr A' us := by rw [hq]; exact hr'
      obtain ⟨g, o, B, d, rfl, hc, b1, b2, b3, b4⟩ := ISs.cell r1 (ISs.drawn hq hs) hlt
      obtain ⟨g', o', B', d', rfl, hc', b1', b2', b3', b4'⟩ := ISs.cell r2 (ISs.drawn hq hs') hlt'
      have HS := Lib.hid (List.take_succ_eq_append_getElem hlt)
      have HS' := Lib.hid (List.take_succ_eq_append_getElem hlt')
      have HX : Hid (ls[k]? = some ls[k]) := List.getElem?_eq_getElem hlt
      have HX' : Hid (ms[k]? = some ms[k]) := List.getElem?_eq_getElem hlt'
      have HQ := Lib.hid hq
      generalize ls[k] = x at *
      generalize ms[k] = y at *
      unfold maxLen at b2 b2'
      clear hlt' hr hr' hs hs' r1 r2 hq b4 b4'
      by_cases heq : x = y
      · subst heq
        go_wp2_with fail
        go_quiet ((go_at_call 27; exact sameInts_quiet B B' _ _ d d' _ x x wr true rfl rfl (by omega) b3 b3' (by simp)))
        go_wp2_with fail
        go_roundw
        case rel => exact ⟨k + 1, q + nq, by omega, by go_num, by rw [HQ.out, World.drewN_drewN], by show _ = _; rw [HS.out, HS'.out, hkk.out]⟩
        case measure => simp [intOf]; omega
      · have hfin : decide (ls = ms) = false := by
          rw [decide_eq_false_iff_not]
          intro e
          apply heq
          have e1 := HX.out
          rw [e, HX'.out] at e1
          exact (Option.some.inj e1).symm
        have HF := Lib.hid hfin
        have HD := Lib.hid (decide_eq_false heq)
        clear hfin heq
        go_wp2_with fail
        go_quiet ((go_at_call 27; exact sameInts_quiet B B' _ _ d d' _ x y wr false rfl rfl (by omega) b3 b3' HD.out))
        go_wp2_with fail
        go_ret
        exact ⟨by rw [HF.out]; rfl, q + nq, by rw [HQ.out, World.drewN_drewN]⟩
    · have hfin : decide (ls = ms) = true := by
        have e := hkk.out
        rw [List.take_of_length_le (by omega), List.take_of_length_le (by rw [← HE.out]; omega)] at e
        simpa using e
      have HF := Lib.hid hfin
      clear hfin
      go_wp2_with fail
      go_ret
      exact ⟨by rw [HF.out]; rfl, q, by first | rfl | exact hq⟩

theorem sameLists_any (A A' : Option Addr) (n n' c c' : Nat) (vs us : List Value) (ls ms : List (List Int)) (w : World) (hn : ls.length = n) (hn' : ms.length = n') (hb : n ≤ 9223372036854775807) (hr : Row w A vs) (hs : ISs w vs ls) (hr' : Row w A' us) (hs' : ISs w us ms) :
    Calls Try.prog 17 #[.slice A n c, .slice A' n' c'] w fun e w' => e = .returned (.bool (decide (ls = ms))) ∧ ∃ q, w' = w.drewN q := by
  by_cases he : ls.length = ms.length
  · exact sameLists_len A A' n n' c c' vs us ls ms w hn hn' hb hr hs hr' hs' he
  · subst hn
    subst hn'
    have hfin : decide (ls = ms) = false := by
      rw [decide_eq_false_iff_not]
      intro e
      exact he (congrArg List.length e)
    rw [hfin]
    have hz : ((ls.length : Int) != (ms.length : Int)) = true := by simp; omega
    clear hfin he
    go_enter Try.func17, Try.ntmps17
    go_wp2_with fail
    go_ret
    exact ⟨rfl, 0, rfl⟩

end Go.Proofs.Ytdgijpbgbhpffaa
