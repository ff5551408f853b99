/-
  Contract of package least's split.
-/
import Derived.Test.YtobijkjonnoeiaaLsW
import Derived.Test.YtobijkjonnoeiaaKnK
namespace Go.Proofs.Ytobijkjonnoeiaa
open Go.RowKit

/-- The head of a round. -/
def SpRel (s : Nat) (w : World) (v : Value) (wr : World) : Prop := ∃ k : Nat, k ≤ 2 * s + 1 ∧ v = .int .i64 (k : Int) ∧ Below w.heap.size w wr

set_option maxRecDepth 100000 in
set_option maxHeartbeats 1600000 in
theorem split_any (A B : Option Addr) (n m c d cut : Nat) (a b : List Int) (w : World) (hn : a.length = n) (hm : b.length = m) (hb : n ≤ 1048576) (hb' : m ≤ 1048576) (hcut : cut ≤ n) (hcut0 : 0 < cut) (h1 : Row w A (iv a)) (h2 : Row w B (iv b)) :
    Calls Try.prog 27 #[.slice A n c, .slice B m d, .int .i64 (cut : Int)] w fun e w' => e = .returned (.int .i64 ((spl a b cut : Nat) : Int)) ∧ Below w.heap.size w w' := by
  have HN := Lib.hid hn
  have HM := Lib.hid hm
  clear hn hm
  obtain ⟨s, hs⟩ : ∃ s, min n m = s := ⟨_, rfl⟩
  have x1 : (if m < n then (m : Int) else (n : Int)) = (s : Int) := by split <;> omega
  have bs : s ≤ 1048576 := by omega
  have HS := Lib.hid hs
  clear hs
  go_enter Try.func27, Try.ntmps27
  go_wp2_with fail
  go_loopw [8, 9] (fun v _ wr => SpRel s w v wr) (fun v _ _ => s - (intOf v).toNat)
  case atStart => exact ⟨0, Nat.zero_le _, rfl, Below.refl _ _⟩
  case round =>
    obtain ⟨k, hk, rfl, hB⟩ := hrel
    have SW := Lib.hid (sweep_any A B n m c d cut k a b wr HN.out HM.out hb hb' (by omega) hcut hcut0 (h1.below hB) (h2.below hB))
    have hd := swp_done a b cut k (by rw [HN.out]; exact hcut) hcut0
    rw [HN.out, HM.out, HS.out] at hd
    generalize swp b cut (k + (n - m)) (k + (m - n)) (backs a n) 0 = C at *
    obtain ⟨C1, C2⟩ := C
    obtain ⟨d1, d2⟩ := hd
    simp only at d1 d2
    have D2 := Lib.hid d2
    clear d2
    go_wp2_with fail
    refine SW.out.mono ?_
    rintro e w1 ⟨rfl, hB1⟩
    have hB2 := Lib.hid (fun o => below_al (below_go hB hB1) o)
    clear SW hB hB1
    by_cases hge : (s : Int) - (k : Int) ≤ C1
    · have t1 : decide ((s : Int) - (k : Int) ≤ C1) = true := decide_eq_true hge
      have HR := Lib.hid (D2.out hge)
      clear hge D2
      go_wp2_with fail
      go_ret
      exact ⟨by rw [← HR.out]; rfl, hB2.out _⟩
    · have t1 : decide ((s : Int) - (k : Int) ≤ C1) = false := decide_eq_false hge
      have hks : k < s := by omega
      clear hge
      go_wp2_with fail
      go_roundw
      case rel => exact ⟨2 * k + 1, by omega, by go_num, hB2.out _⟩
      case measure => simp [intOf]; omega

end Go.Proofs.Ytobijkjonnoeiaa
