/-
  Contract of the reference's Len.
-/
import Derived.Test.YtnocjkpjihpphaaBh1
namespace Go.Proofs.Ytnocjkpjihpphaa
open Go.RowKit

theorem lx_lcs (a b : List Int) : lx a b 0 0 = lcs a b := by simp [lx]

set_option maxHeartbeats 800000 in
theorem len_any (A B : Option Addr) (n m c d : Nat) (a b : List Int) (w : World) (hn : a.length = n) (hm : b.length = m) (hb : n ≤ 1048576) (hb' : m ≤ 1048576) (h1 : Row w A (iv a)) (h2 : Row w B (iv b)) :
    Calls Try.prog 21 #[.slice A n c, .slice B m d] w fun e w' => e = .returned (.int .i64 (lcs a b : Nat)) ∧ Below w.heap.size w w' := by
  go_enter Try.func21, Try.ntmps21
  go_wp2_with fail
  refine (behind_any A B n m c d a b w hn hm hb hb' h1 h2).mono ?_
  rintro e w1 ⟨rfl, hT, hB⟩
  obtain ⟨t1, t2⟩ := hT 0 (Nat.zero_le _)
  have t3 := t2 0 (Nat.zero_le _)
  rw [lx_lcs] at t3
  simp only [Nat.sub_zero] at t1 t3
  clear t2 hT hn hm
  go_wp2_with fail
  go_ret
  exact ⟨rfl, hB⟩

end Go.Proofs.Ytnocjkpjihpphaa
