/-
  Words of stage 17's statements.
-/
import Derived.Test.YtdkcgehjokdnoaaSn1
import Derived.Test.YtdkcgehjokdnoaaSn2
import Derived.Test.YtdkcgehjokdnoaaFew
import Derived.Test.YtdkcgehjokdnoaaRf7
import Derived.Test.YtdkcgehjokdnoaaRefL
import Derived.Test.YtdkcgehjokdnoaaKnK
namespace Go.Proofs.Ytdkcgehjokdnoaa
open Go.RowKit

set_option maxRecDepth 100000 in
/-- l[lo:lo+k]. -/
theorem slice_mid (A : Option Addr) (n c lo k : Nat) (l : List Int) (w0 : World) (h : Row w0 A (iv l)) (hn : l.length = n) (hc : n ≤ c) (hlo : lo + k ≤ n) :
    ∃ A' c', (∀ w, (Instr.sliceAt 22 (.slice A n c) (some (.int .i64 (lo : Int))) (some (.int .i64 ((lo : Int) + (k : Int)))) none).run Try.prog w = .ok (.slice A' k c') w) ∧ Row w0 A' (iv ((l.drop lo).take k)) := by
  refine ⟨if c = lo then A else A.map (·.add (lo * 1)), c - lo, fun w => ?_, ?_⟩
  · rw [run_sliceAt_slice w 22 _ _ _ _ Try.underlying22, run_slice_lh w 22 A n c Try.underlying22 .i64 .i64 (lo : Int) ((lo : Int) + (k : Int)) (by omega) (by omega) (by omega), size_int]
    have e : ((lo : Int) + (k : Int)).toNat = lo + k := by omega
    simp [Result.andThen, sliced, e]
  · have := h.cut lo (lo + k) c (by omega) (by rw [iv_length]; omega) (by rw [iv_length]; omega)
    rw [iv_dropX, iv_takeX, Nat.add_sub_cancel_left] at this
    rw [Nat.mul_one]
    exact this
/-- A place out of a byte. -/
theorem place_u8 (i : Int) (n : Nat) (h : 0 ≤ i) : ∃ p : Nat, p ≤ n ∧ i % ((n : Int) + 1) = (p : Int) ∧ i.tmod ((n : Int) + 1) = (p : Int) := by
  have h1 := Int.emod_nonneg i (show ((n : Int) + 1) ≠ 0 by omega)
  have h2 := Int.emod_lt_of_pos i (show (0 : Int) < (n : Int) + 1 by omega)
  exact ⟨(i % ((n : Int) + 1)).toNat, by omega, by omega, by rw [Int.tmod_eq_emod_of_nonneg h]; omega⟩
theorem dn_two {x y : List Int} {na nb p q : Nat} (hx : x.length = na) (hy : y.length = nb) (hp : p ≤ na) (hq : q ≤ nb) :
    bkN x y p q = bkN y x q p ∧ dnN x y p q = dnN y x q p ∧ dnI x.reverse y.reverse ((na : Int) - (p : Int)) ((nb : Int) - (q : Int)) = (bkN x y p q : Nat) := by
  refine ⟨bk_comm _ _ _ _, dn_comm _ _ _ _, ?_⟩
  rw [bk_turn x y p q (by omega) (by omega), show (na : Int) - (p : Int) = ((na - p : Nat) : Int) by omega, show (nb : Int) - (q : Int) = ((nb - q : Nat) : Int) by omega, dnI_in (by rw [List.length_reverse]; omega) (by rw [List.length_reverse]; omega), hx, hy]
theorem dn_steps {x y : List Int} {na nb p q N : Nat} (hx : x.length = na) (hy : y.length = nb) (hp : p ≤ na) (hq : q ≤ nb) (hN : dnN x y p q = N) :
    N ≤ na - p ∧ N ≤ nb - q ∧ (0 < N → dnI x y ((p : Int) + 1) ((q : Int) + 1) = (N : Int) - 1) ∧ dnI x y ((p : Int) + (N : Int)) ((q : Int) + (N : Int)) = 0 ∧ (∃ U : Nat, bkI x y ((p : Int) + (N : Int)) ((q : Int) + (N : Int)) = (U : Int) ∧ N ≤ U ∧ U ≤ na) ∧ slI x y ((q : Int) - (p : Int)) (q : Int) = (q : Int) + (N : Int) := by
  have h1 := dnN_le x y p q
  have h2 := dn_step x y p q
  have h3 := dn_done x y p q (by omega) (by omega)
  have h4 := bk_back x y p q (by omega) (by omega)
  rw [hN] at h1 h2 h3 h4
  rw [hx, hy] at h1
  have e1 : (p : Int) + (N : Int) = ((p + N : Nat) : Int) := by omega
  have e2 : (q : Int) + (N : Int) = ((q + N : Nat) : Int) := by omega
  refine ⟨h1.1, h1.2, fun h => ?_, ?_, ⟨bkN x y (p + N) (q + N), ?_, h4, by have := (bkN_le x y (p + N) (q + N)).1; omega⟩, ?_⟩
  · rw [show (p : Int) + 1 = ((p + 1 : Nat) : Int) by omega, show (q : Int) + 1 = ((q + 1 : Nat) : Int) by omega, dnI_in (by omega) (by omega), h2 h]
    omega
  · rw [e1, e2, dnI_in (by omega) (by omega), h3]
    rfl
  · rw [e1, e2, bkI_in (by omega) (by omega)]
  · rw [slI_in (i := p) (q := q) (by omega) (by omega) rfl (by omega), hN]
    omega

end Go.Proofs.Ytdkcgehjokdnoaa
