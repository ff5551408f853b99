/-
  Contract of package rows' Split.
-/
import Derived.Test.YtkiijldiofbflaaRw3
namespace Go.Proofs.Ytkiijldiofbflaa
open Go.RowKit

/-- The head of a round. -/
def SpRel (f g : List Int) (n : Nat) (w : World) (j s i : Value) (wr : World) : Prop :=
  ∃ k q : Nat, k ≤ n ∧ i = .int .i64 (k : Int) ∧ j = .int .i64 ((spR f g k).1 : Nat) ∧ s = .int .i64 (spR f g k).2 ∧ wr = w.drewN q
theorem sp_less {f g : List Int} {n k q : Nat} {w : World} {S : Int} (hk : k < n) (hS : sumAt f g k = S) (h : (spR f g k).2 < S) : SpRel f g n w (.int .i64 (k : Int)) (.int .i64 S) (.int .i64 ((k + 1 : Nat) : Int)) (w.drewN q) := by
  subst hS
  have e : spR f g (k + 1) = (k, sumAt f g k) := if_pos h
  exact ⟨k + 1, q, hk, rfl, by rw [e], by rw [e], rfl⟩
theorem sp_not {f g : List Int} {n k q : Nat} {w : World} {S : Int} (hk : k < n) (hS : sumAt f g k = S) (h : ¬ (spR f g k).2 < S) : SpRel f g n w (.int .i64 ((spR f g k).1 : Nat)) (.int .i64 (spR f g k).2) (.int .i64 ((k + 1 : Nat) : Int)) (w.drewN q) := by
  subst hS
  have e : spR f g (k + 1) = spR f g k := if_neg h
  exact ⟨k + 1, q, hk, rfl, by rw [e], by rw [e], rfl⟩

set_option maxRecDepth 100000 in
set_option maxHeartbeats 1600000 in
theorem rsplit_any (A B : Option Addr) (n m c d : Nat) (f g : List Int) (w : World) (hn : f.length = n) (hm : g.length = m) (hb : n ≤ 9223372036854775807) (h1 : Row w A (iv f)) (h2 : Row w B (iv g)) :
    Calls Try.prog 27 #[.slice A n c, .slice B m d] w fun e w' => e = .returned (.tuple #[.int .i64 ((splitL f g).1 : Nat), .int .i64 (splitL f g).2]) ∧ ∃ q, w' = w.drewN q := by
  have HN := Lib.hid hn
  have HM := Lib.hid hm
  clear hn hm
  by_cases h0 : n = 0
  · have HE : Hid (splitL f g = (0, 0)) := if_pos (.inl (by rw [HN.out]; exact h0))
    rw [HE.out]
    subst h0
    clear h1 h2 HE
    go_enter Try.func27, Try.ntmps27
    go_wp2_with fail
    go_ret2
    exact ⟨rfl, 0, rfl⟩
  · have e0 : ((n : Int) == 0) = false := by simp; omega
    by_cases hf : n = m
    · subst hf
      have HE : Hid (splitL f g = spR f g n) := by show splitL f g = _; unfold splitL; rw [if_neg (by rw [HN.out, HM.out]; omega), HN.out]
      rw [HE.out]
      have e1 : ((n : Int) != (n : Int)) = false := by simp
      obtain ⟨gf, of, rfl, _⟩ := h1.int (k := 0) (by rw [HN.out]; omega)
      obtain ⟨gg, og, rfl, _⟩ := h2.int (k := 0) (by rw [HM.out]; omega)
      have t1 := h1.nth (k := 0) (by rw [HN.out]; omega)
      have t2 := h2.nth (k := 0) (by rw [HM.out]; omega)
      rw [Nat.add_zero] at t1 t2
      have p0 : 0 < n := by omega
      have p1 : (0 : Int) < (n : Int) := by omega
      have HS0 : Hid (IntKind.i64.wrap (nth f 0 + nth g 0) = (spR f g 0).2) := rfl
      clear HE
      go_enter Try.func27, Try.ntmps27
      go_wp2_with fail
      go_quiet (fail)
      go_wp2_with fail
      go_loopw [4, 5, 28] (fun j s i wr => SpRel f g n w j s i wr) (fun _ _ i _ => n - (intOf i).toNat)
      case atStart => exact ⟨0, nq, Nat.zero_le _, rfl, rfl, by rw [← HS0.out, IntWalk.i64_left], rfl⟩
      case round =>
        clear t1 t2 HS0
        obtain ⟨k, q, hk, rfl, rfl, rfl, rfl⟩ := hrel
        by_cases hlt : k < n
        · have t1 := h1.nth (k := k) (by rw [HN.out]; omega)
          have t2 := h2.nth (k := k) (by rw [HM.out]; omega)
          have HS : Hid (sumAt f g k = IntKind.i64.wrap (nth f k + nth g k)) := rfl
          generalize nth f k = X at *
          generalize nth g k = Y at *
          rw [IntWalk.i64_left] at HS
          generalize hw : wrap64 (X + Y) = S at *
          have R1 := Lib.hid (fun h => sp_less (q := q) (w := w) hlt HS.out h)
          have R2 := Lib.hid (fun h => sp_not (q := q) (w := w) hlt HS.out h)
          generalize spR f g k = p at *
          obtain ⟨p1, p2⟩ := p
          by_cases hp : p2 < S
          · have R := Lib.hid (R1.out hp)
            clear R1 R2
            go_wp2_with fail
            go_roundw
            case rel => first | exact R.out | (have r := R.out; rw [← hw] at r; exact r)
            case measure => simp [intOf]; omega
          · have R := Lib.hid (R2.out hp)
            clear R1 R2
            go_wp2_with fail
            go_roundw
            case rel => first | exact R.out | (have r := R.out; rw [← hw] at r; exact r)
            case measure => simp [intOf]; omega
        · obtain rfl : k = n := by omega
          clear h1 h2
          go_wp2_with fail
          go_ret2
          exact ⟨rfl, q, rfl⟩
    · have HE : Hid (splitL f g = (0, 0)) := if_pos (.inr (by rw [HN.out, HM.out]; exact hf))
      rw [HE.out]
      have e1 : ((n : Int) != (m : Int)) = true := by simp; omega
      clear h1 h2 HE
      go_enter Try.func27, Try.ntmps27
      go_wp2_with fail
      go_ret2
      exact ⟨rfl, 0, rfl⟩

end Go.Proofs.Ytkiijldiofbflaa
