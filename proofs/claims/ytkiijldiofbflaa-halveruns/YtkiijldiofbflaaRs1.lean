/-
  Contract of the reference's Split.
-/
import Derived.Test.YtkiijldiofbflaaRw4
import Derived.Test.YtkiijldiofbflaaRr1
import Derived.BigQuiet
namespace Go.Proofs.Ytkiijldiofbflaa
open Go.RowKit

/-- The head of a round. -/
def RsRel (f g : List Int) (n : Nat) (w : World) (at' j : Value) (wr : World) : Prop :=
  ∃ k q : Nat, 1 ≤ k ∧ k ≤ n ∧ j = .int .i64 (k : Int) ∧ at' = .int .i64 ((spR f g k).1 : Nat) ∧ wr = w.drewN q
theorem spR_lt (f g : List Int) {k : Nat} (h : 1 ≤ k) : (spR f g k).1 < k := by
  obtain ⟨_, h2, _⟩ := spR_is f g k
  omega

set_option maxRecDepth 100000 in
set_option maxHeartbeats 1600000 in
theorem refSplit_any (A B : Option Addr) (n m c d : Nat) (f g : List Int) (w : World) (hn : f.length = n) (hm : g.length = m) (hb : n ≤ 1048577) (h1 : Row w A (iv f)) (h2 : Row w B (iv g)) :
    Calls Try.prog 21 #[.slice A n c, .slice B m d] w fun e w' => e = .returned (.tuple #[.int .i64 ((splitL f g).1 : Nat), .int .i64 (splitL f g).2]) ∧ ∃ q, w' = w.drewN q := by
  have HN := Lib.hid hn
  have HM := Lib.hid hm
  clear hn hm
  by_cases hf : n = m
  case neg =>
    have HE : Hid (splitL f g = (0, 0)) := if_pos (.inr (by rw [HN.out, HM.out]; exact hf))
    rw [HE.out]
    have e1 : ((n : Int) != (m : Int)) = true := by simp; omega
    clear h1 h2 HE
    go_enter Try.func21, Try.ntmps21
    go_wp2_with fail
    go_ret2
    exact ⟨rfl, 0, rfl⟩
  subst hf
  have e1 : ((n : Int) != (n : Int)) = false := by simp
  by_cases h0 : n = 0
  · have HE : Hid (splitL f g = (0, 0)) := if_pos (.inl (by rw [HN.out]; exact h0))
    rw [HE.out]
    subst h0
    clear h1 h2 HE
    go_enter Try.func21, Try.ntmps21
    go_wp2_with fail
    go_ret2
    exact ⟨rfl, 0, rfl⟩
  · have e0 : ((n : Int) == 0) = false := by simp; omega
    have HE : Hid (splitL f g = spR f g n) := by show splitL f g = _; unfold splitL; rw [if_neg (by rw [HN.out, HM.out]; omega), HN.out]
    rw [HE.out]
    obtain ⟨gf, of, rfl, _⟩ := h1.int (k := 0) (by rw [HN.out]; omega)
    obtain ⟨gg, og, rfl, _⟩ := h2.int (k := 0) (by rw [HM.out]; omega)
    clear HE
    go_enter Try.func21, Try.ntmps21
    go_wp2_with fail
    go_loopw [6, 7] (fun a j wr => RsRel f g n w a j wr) (fun _ j _ => n - (intOf j).toNat)
    case atStart =>
      refine ⟨1, 0, Nat.le_refl _, by omega, rfl, ?_, rfl⟩
      have := spR_lt f g (Nat.le_refl 1)
      rw [show (spR f g 1).1 = 0 by omega]
      rfl
    case round =>
      obtain ⟨k, q, hk1, hk, rfl, rfl, rfl⟩ := hrel
      have hp := spR_lt f g hk1
      obtain ⟨s1, _⟩ := spR_is f g k
      have HS1 := Lib.hid s1
      clear s1
      have t3 := h1.nth (k := (spR f g k).1) (by rw [HN.out]; omega)
      have t4 := h2.nth (k := (spR f g k).1) (by rw [HM.out]; omega)
      by_cases hlt : k < n
      · have t1 := h1.nth (k := k) (by rw [HN.out]; omega)
        have t2 := h2.nth (k := k) (by rw [HM.out]; omega)
        have HP : Hid (spR f g (k + 1) = if (spR f g k).2 < sumAt f g k then (k, sumAt f g k) else spR f g k) := rfl
        have HS : Hid (sumAt f g k = IntKind.i64.wrap (nth f k + nth g k)) := rfl
        have HS2 : Hid (sumAt f g (spR f g k).1 = IntKind.i64.wrap (nth f (spR f g k).1 + nth g (spR f g k).1)) := rfl
        have R := Lib.hid (fun (a : Nat) (q : Nat) (h : (spR f g (k + 1)).1 = a) => (⟨k + 1, q, by omega, by omega, rfl, by rw [h], rfl⟩ : RsRel f g n w (.int .i64 (a : Int)) (.int .i64 ((k + 1 : Nat) : Int)) (w.drewN q)))
        rw [HS1.out, HS2.out, HS.out] at HP
        generalize spR f g (k + 1) = P1 at *
        generalize spR f g k = P0 at *
        obtain ⟨p, s⟩ := P0
        simp only at *
        generalize nth f k = X at *
        generalize nth g k = Y at *
        generalize nth f p = X' at *
        generalize nth g p = Y' at *
        clear HS HS2 HS1
        obtain ⟨S, hS⟩ : ∃ S, IntKind.i64.wrap (X + Y) = S := ⟨_, rfl⟩
        obtain ⟨S', hS'⟩ : ∃ S, IntKind.i64.wrap (X' + Y') = S := ⟨_, rfl⟩
        have hT : wrap64 (X + Y) = S := by rw [← IntWalk.i64_left]; exact hS
        have hT' : wrap64 (X' + Y') = S' := by rw [← IntWalk.i64_left]; exact hS'
        rw [hS, hS'] at HP
        by_cases hp : S' < S
        · rw [if_pos hp] at HP
          go_wp2_with fail
          go_quiet (fail)
          go_wp2_with fail
          go_roundw
          case rel => exact R.out _ _ (by rw [HP.out])
          case measure => simp [intOf]; omega
        · rw [if_neg hp] at HP
          go_wp2_with fail
          go_quiet (fail)
          go_wp2_with fail
          go_roundw
          case rel => exact R.out _ _ (by rw [HP.out])
          case measure => simp [intOf]; omega
      · obtain rfl : k = n := by omega
        have HF : Hid ((spR f g k).2 = IntKind.i64.wrap (nth f (spR f g k).1 + nth g (spR f g k).1)) := HS1.out
        obtain ⟨p, hp0⟩ : ∃ p, (spR f g k).1 = p := ⟨_, rfl⟩
        have HP := Lib.hid hp0
        rw [hp0] at HF t3 t4 hp
        generalize nth f p = X' at *
        generalize nth g p = Y' at *
        rw [IntWalk.i64_left] at HF
        clear h1 h2 HS1 hp0
        go_wp2_with fail
        rw [HP.out]
        go_quiet (fail)
        go_wp2_with fail
        go_ret2
        refine ⟨?_, q + nq, by rw [World.drewN_drewN]⟩
        rw [HF.out, HP.out]
        rfl

end Go.Proofs.Ytkiijldiofbflaa
