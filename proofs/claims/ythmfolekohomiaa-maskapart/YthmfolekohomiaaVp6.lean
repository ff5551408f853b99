/-
  Package vec over the landed code: Not, Ones.
-/
import Derived.Test.YthmfolekohomiaaVp5
namespace Go.Proofs.Ythmfolekohomiaa
open Go.RowKit

def notW (x : List Nat) (k : Nat) : Nat := 18446744073709551615 - wd x k
theorem not_word (u : Nat) (hu : u < 18446744073709551616) : bits .xor .u64 18446744073709551615 (u : Int) = ((18446744073709551615 - u : Nat) : Int) := by
  have h := u64_xor_nat 18446744073709551615 u (by decide) hu
  rw [show (((18446744073709551615 : Nat)) : Int) = 18446744073709551615 from rfl] at h
  rw [h]
  congr 1
  apply Nat.eq_of_testBit_eq
  intro i
  rw [Nat.testBit_xor, show 18446744073709551615 - u = 2 ^ 64 - (u + 1) by omega, Nat.testBit_two_pow_sub_succ hu, show (18446744073709551615 : Nat) = 2 ^ 64 - 1 from rfl, Nat.testBit_two_pow_sub_one]
  by_cases hi : i < 64
  · rw [decide_eq_true hi]
    cases u.testBit i <;> rfl
  · rw [decide_eq_false hi, Nat.testBit_lt_two_pow (Nat.lt_of_lt_of_le hu (show 2 ^ 64 ≤ 2 ^ i from Nat.pow_le_pow_right (by decide) (by omega)))]
    rfl
theorem notW_bit {x : List Nat} (hx : Wd x) (j : Nat) : (notW x (j / 64)).testBit (j % 64) = !bt x j := by
  have h := wd_lt hx (j / 64)
  unfold notW
  rw [show 18446744073709551615 - wd x (j / 64) = 2 ^ 64 - (wd x (j / 64) + 1) by omega, Nat.testBit_two_pow_sub_succ h, decide_eq_true (Nat.mod_lt _ (by decide)), Bool.true_and]
  rfl

set_option maxRecDepth 100000 in
set_option maxHeartbeats 1600000 in
theorem pnot : Op1OK 33 (fun x j => !bt x j) := by
  intro A m c x n w hm hb hc hcm hI hr hx
  obtain ⟨i0, hi, hz0, hz1, hz2⟩ := info_parts Try.infoU64
  have HWS := Lib.hid (pwords n w)
  have hWl := wds_le n
  have HM := Lib.hid hm
  obtain ⟨W, hW⟩ : ∃ W, wds n = W := ⟨_, rfl⟩
  have HW := Lib.hid hW
  rw [hW] at hWl HWS ⊢
  clear hW hm
  have HF := Lib.hid (fun (T : Nat) (w1 : World) (h1 : w1.rowIs T 28 W (fun k => .int .u64 (keepW (wid n) (notW x) k : Nat))) => made_of (w := w) (wr := w1) (T := T) (W := W) (F := keepW (wid n) (notW x)) (g := fun j => decide (j < wid n) && !bt x j) (keepW_lt fun k _ => by unfold notW; omega) (fun j hj => keepW_bit (fun j _ => notW_bit hx j) j (by rw [← HW.out] at hj; exact hj)) h1)
  go_enter Try.func33, Try.ntmps33
  go_wp2_with fail
  refine HWS.out.mono ?_
  rintro e w' ⟨rfl, rfl⟩
  clear HWS
  go_upto_region 2 with (at_make; refine wpList_make_row _ rfl _ _ 26 rfl 28 i0 (.int .u64 0) Try.underlying26 hi hz0 hz1 rfl .i64 .i64 W rfl rfl (by rw [hz2]; omega) (by omega) ?_)
  have hT := World.rowIs_made w (.int .u64 0) W 28
  have hB : Below w.heap.size w (w.alloc (.cells (madeCells #[.int .u64 0] W) 28)) := (Below.refl _ _).alloc (Nat.le_refl _) _
  generalize w.alloc (.cells (madeCells #[.int .u64 0] W) 28) = w0 at *
  go_wp2_with fail
  go_loopw [12] (fun i wr => WRel W (notW x) w i wr) (fun i _ => W - (intOf i).toNat)
  case atStart => exact wrel_start hT hB
  case round =>
    clear hT hB
    obtain ⟨k, hk, rfl, hrow, hbw⟩ := hrel
    by_cases hlt : k < W
    · have t1 := hrow.cell hlt
      have t2 := hrow.frozen k
      have R := wrel_next hlt hrow hbw (not_word _ (wd_lt hx k))
      have rx := hr.below hbw
      clear hrow hbw HF
      go_wp2_with fail
      refine (pword A m c k x wr HM.out rx).mono ?_
      rintro e w2 ⟨rfl, rfl⟩
      generalize wd x k = u at *
      go_wp2_with fail
      go_roundw
      case rel => first | exact R | ((repeat apply Exists.intro); exact ⟨R, rfl⟩)
      case measure => simp [intOf]; omega
    · have hrow' := hrow.congr (g := fun j => .int .u64 (notW x j : Nat)) fun i h => by rw [if_pos (by omega)]
      clear hrow
      go_wp2_with fail
      refine (pclear n w.heap.size W w.heap.size (notW x) w wr HW.out hrow' (fun k _ => by unfold notW; omega) (Nat.le_refl _) hbw).mono ?_
      rintro e w3 ⟨rfl, h3, hb3⟩
      have HQ := Lib.hid (HF.out _ w3 h3 (Nat.le_refl _) (by unfold maxLen; omega) hb3)
      clear h3 hb3 hrow' hbw HF
      go_wp2_with fail
      go_ret
      exact HQ.out

theorem ponesOK : OnesOK := by
  intro n w hI
  have h := pnot none 0 0 [] n w rfl (by decide) (by decide) (by decide) hI (Row.nil _ _) (fun u hu => by simp at hu)
  go_enter Try.func22, Try.ntmps22
  go_wp2_with fail
  refine h.mono ?_
  rintro e w1 ⟨v, x, rfl, h1, h2, h3, h4, h5⟩
  have HQ : Hid (MadeV (wds n) (fun j => decide (j < wid n) && true) w (.returned v) w1) := ⟨v, x, rfl, h1, h2, fun j => by rw [h3]; simp [bt], h4, h5⟩
  clear h1 h2 h3 h4 h5 h
  go_wp2_with fail
  go_ret
  exact HQ.out

end Go.Proofs.Ythmfolekohomiaa
