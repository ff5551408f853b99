/-
  Words and contracts that the proof leans on.
-/
import Derived.Test.YtncbhnmhaoblaaaM11
import Derived.Deep.QuietTactic
import Derived.BigQuiet
import Derived.Deep.RegionWith
namespace Go.Proofs.Ytncbhnmhaoblaaa
open Go.RowKit

theorem has_in {i : Nat} {n : Nat} (h : i / 64 < n) : hasB n (i : Int) = true := by unfold hasB; simp; omega
theorem has_not {n : Nat} {i : Int} (h : ¬ (0 ≤ i ∧ i < 64 * (n : Int))) : hasB n i = false := by unfold hasB; rw [decide_eq_false h]
theorem and_bit_ne (u s : Nat) (hu : u < 18446744073709551616) (hs : s < 64) : (bits .and .u64 (u : Int) ((2 ^ s : Nat) : Int) != 0) = u.testBit s := by
  have h2 : 2 ^ s < 18446744073709551616 := Nat.lt_of_lt_of_le (Nat.pow_lt_pow_right (by decide) hs) (by decide)
  rw [u64_and_nat u _ hu h2]
  cases hb : u.testBit s
  · have e : u &&& 2 ^ s = 0 := by
      apply Nat.eq_of_testBit_eq
      intro i
      rw [Nat.testBit_and, Nat.testBit_two_pow, Nat.zero_testBit]
      by_cases e : s = i
      · rw [← e, hb]; rfl
      · rw [decide_eq_false e, Bool.and_false]
    rw [e]
    rfl
  · have e : u &&& 2 ^ s ≠ 0 := by
      intro e
      have h := congrArg (fun n => n.testBit s) e
      simp only [Nat.testBit_and, Nat.testBit_two_pow, hb, Nat.zero_testBit] at h
      simp at h
    simp only [bne_iff_ne, ne_eq]
    omega

theorem phas_quiet (A : Option Addr) (n c : Nat) (i : Int) (w : World) (q : Nat) (b : Bool) (hi : I64 i) (hn : n ≤ 16384) (hb : hasB n i = b) :
    Calls Try.prog 48 #[.slice A n c, .int .i64 i] (w.drewN q) fun e w'' => e = .returned (.bool b) ∧ ∃ k, w'' = w.drewN k :=
  (phas A n c i (w.drewN q) hi hn).mono fun _ _ ⟨h1, h2⟩ => ⟨by rw [h1, hb], q, h2.symm⟩
theorem pbit_quiet (k s : Nat) (w : World) (q : Nat) (hk : k ≤ 1048576) (hs : 2 ^ (k % 64) = s) :
    Calls Try.prog 49 #[.int .i64 (k : Int)] (w.drewN q) fun e w'' => e = .returned (.int .u64 (s : Nat)) ∧ ∃ k, w'' = w.drewN k :=
  (pbit k (w.drewN q) hk).mono fun _ _ ⟨h1, h2⟩ => ⟨by rw [h1, hs], q, h2.symm⟩

set_option maxRecDepth 100000 in
set_option maxHeartbeats 1600000 in
theorem pget : GetOK := by
  intro A n c i x w hn hb hc hcm hI hr hx
  have HIi := Lib.hid hI
  by_cases h0 : 0 ≤ i ∧ i < 64 * (n : Int)
  · obtain ⟨i, rfl⟩ := Int.eq_ofNat_of_zero_le h0.1
    have hin : i / 64 < n := by omega
    have hi1 : i ≤ 1048576 := by omega
    have e0 : btI x (i : Int) = bt x i := btI_nat x i
    rw [e0]
    subst hn
    obtain ⟨g, o, rfl, hc0⟩ := hr.word hin
    have hw := hx _ (List.getElem_mem hin)
    have HB : Hid (bt x i = (x[i / 64]'hin).testBit (i % 64)) := by show _ = _; unfold bt; rw [List.getElem?_eq_getElem hin]; rfl
    generalize x[i / 64] = u at *
    have HT := Lib.hid (and_bit_ne u (i % 64) hw (Nat.mod_lt _ (by decide)))
    have HH := Lib.hid (has_in hin)
    obtain ⟨p, hp⟩ : ∃ p, 2 ^ (i % 64) = p := ⟨_, rfl⟩
    rw [hp] at HT
    have HP := Lib.hid hp
    have z1 : (i : Int) / 64 < (x.length : Int) := by omega
    clear hr hx e0 hp h0
    go_enter Try.func38, Try.ntmps38
    go_wp2_with fail
    go_quiet (first | (go_at_call 48; exact phas_quiet _ _ _ _ w _ true HIi.out hb HH.out) | (go_at_call 49; exact pbit_quiet _ _ w _ hi1 HP.out))
    go_wp2_with fail
    go_ret
    exact ⟨ret_bool (by rw [HB.out, ← HT.out]), below_drewN (Below.refl _ _) _⟩
  · have e0 : btI x i = false := by
      unfold btI
      by_cases h1 : 0 ≤ i
      · rw [bt_out (by omega), Bool.and_false]
      · rw [decide_eq_false h1, Bool.false_and]
    rw [e0]
    have HH := Lib.hid (has_not h0)
    clear e0 hr hx h0
    go_enter Try.func38, Try.ntmps38
    go_wp2_with fail
    go_quiet (first | (go_at_call 48; exact phas_quiet _ _ _ _ w _ false HIi.out hb HH.out))
    go_wp2_with fail
    go_ret
    exact ⟨rfl, below_drewN (Below.refl _ _) _⟩

end Go.Proofs.Ytncbhnmhaoblaaa
