/-
  Contracts of package pairs' Less and of the reference's.
-/
import Derived.Test.YtobijkjonnoeiaaPrP
namespace Go.Proofs.Ytobijkjonnoeiaa
open Go.RowKit

/-- The head of a round. -/
def LessRel (x y : List Pr) (w : World) (r : Bool) (i : Value) (wr : World) : Prop :=
  ∃ k q : Nat, k ≤ x.length ∧ k ≤ y.length ∧ i = .int .i64 k ∧ wr = w.drewN q ∧ Hid (lessB (x.drop k) (y.drop k) = r)

set_option maxRecDepth 100000 in
set_option maxHeartbeats 1600000 in
theorem refLess (A A' : Option Addr) (n n' c c' : Nat) (x y : List Pr) (w : World) (hn : x.length = n) (hn' : y.length = n') (hb : n ≤ 2147483648) (hb' : n' ≤ 2147483648) (hr : Row w A (pv x)) (hr' : Row w A' (pv y)) :
    Calls Try.prog 18 #[.slice A n c, .slice A' n' c'] w fun e w' => e = .returned (.bool (lessB x y)) ∧ ∃ q, w' = w.drewN q := by
  subst hn
  subst hn'
  obtain ⟨r, hr0⟩ : ∃ r, lessB x y = r := ⟨_, rfl⟩
  rw [hr0]
  have HR := Lib.hid hr0
  clear hr0
  go_enter Try.func18, Try.ntmps18
  go_wp2_with fail
  go_loopw [5] (fun i wr => LessRel x y w r i wr) (fun i _ => x.length - (intOf i).toNat)
  case atStart => exact ⟨0, 0, Nat.zero_le _, Nat.zero_le _, rfl, rfl, HR.out⟩
  case round =>
    obtain ⟨k, q, hk, hk', rfl, rfl, hkk⟩ := hrel
    by_cases hlt : k < x.length ∧ k < y.length
    · obtain ⟨hlt, hlt'⟩ := hlt
      obtain ⟨g, o, rfl, hc, hd⟩ := hr.pair hlt
      obtain ⟨g', o', rfl, hc', hd'⟩ := hr'.pair hlt'
      have HX : Hid (x[k]? = some x[k]) := List.getElem?_eq_getElem hlt
      have HX' : Hid (y[k]? = some y[k]) := List.getElem?_eq_getElem hlt'
      have HS := Lib.hid (hkk.out.symm.trans (less_step HX.out HX'.out))
      generalize x[k] = p at *
      generalize y[k] = p' at *
      clear hr hr' hkk HX HX'
      obtain ⟨p1, p2⟩ := p
      obtain ⟨q1, q2⟩ := p'
      simp only at hc hd hc' hd'
      by_cases h1 : p1 = q1
      · subst h1
        by_cases h2 : p2 = q2
        · subst h2
          have R : Hid (lessB (x.drop (k + 1)) (y.drop (k + 1)) = r) := by
            show _ = _
            rw [HS.out, if_pos rfl, if_pos rfl]
          clear HS
          go_wp2_with fail
          go_quiet (fail)
          go_wp2_with fail
          go_quiet (fail)
          go_wp2_with fail
          go_roundw
          case rel => exact ⟨k + 1, _, by omega, by omega, by go_num, rfl, R.out⟩
          case measure => simp [intOf]; omega
        · have R : Hid (decide (p2 < q2) = r) := by
            show _ = _
            rw [HS.out, if_pos rfl, if_neg h2]
          have hz : (p2 == q2) = false := by simpa using h2
          have hz' : (p2 != q2) = true := by simpa using h2
          clear HS h2
          go_wp2_with fail
          go_quiet (fail)
          go_wp2_with fail
          go_quiet (fail)
          go_wp2_with fail
          go_quiet (fail)
          go_wp2_with fail
          go_ret
          exact ⟨ret_bool R.out, _, by simp only [World.drewN_drewN]; rfl⟩
      · have R : Hid (decide (p1 < q1) = r) := by
          show _ = _
          rw [HS.out, if_neg h1]
        have hz : (p1 == q1) = false := by simpa using h1
        have hz' : (p1 != q1) = true := by simpa using h1
        clear HS h1
        go_wp2_with fail
        go_quiet (fail)
        go_wp2_with fail
        go_quiet (fail)
        go_wp2_with fail
        go_ret
        exact ⟨ret_bool R.out, _, by simp only [World.drewN_drewN]; rfl⟩
    · have R : Hid (decide (x.length < y.length) = r) := by
        show _ = _
        rw [← hkk.out, less_end hlt hk hk']
      clear hkk hr hr'
      go_wp2_with fail
      all_goals (go_ret; exact ⟨ret_bool (by first | exact R.out | (rw [← R.out, decide_eq_decide]; done) | (rw [← R.out, decide_eq_decide]; omega)), _, rfl⟩)

end Go.Proofs.Ytobijkjonnoeiaa
