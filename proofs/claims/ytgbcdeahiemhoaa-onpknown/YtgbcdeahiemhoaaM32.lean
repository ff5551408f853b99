/-
  Words and contracts that the proof leans on.
-/
import Derived.Test.YtgbcdeahiemhoaaM25
import Derived.Test.YtgbcdeahiemhoaaM29
import Derived.Test.YtgbcdeahiemhoaaM15
import Derived.Test.YtgbcdeahiemhoaaM31
import Derived.Test.YtgbcdeahiemhoaaM11
import Derived.Test.YtgbcdeahiemhoaaM12
import Derived.Test.YtgbcdeahiemhoaaM13
import Derived.Test.YtgbcdeahiemhoaaM4
import Derived.Test.YtgbcdeahiemhoaaM8
namespace Go.Proofs.Ytgbcdeahiemhoaa
open Go.RowKit

theorem below_eq {w w' : World} (h : w' = w) : Below w.heap.size w w' := h ▸ Below.refl _ _
theorem most_w (n m d : Int) (w : World) (hd : I64 d) :
    Calls Try.prog 13 #[.int .i64 n, .int .i64 m, .int .i64 d] w fun e w' => e = .returned (.int .i64 (mostQ n m d)) ∧ Below w.heap.size w w' :=
  (omost_any n m d w hd).mono fun _ _ ⟨h1, h2⟩ => ⟨h1, below_eq h2⟩
theorem rmost_w (n m d : Int) (w : World) (hd : I64 d) :
    Calls Try.prog 15 #[.int .i64 n, .int .i64 m, .int .i64 d] w fun e w' => e = .returned (.int .i64 (mostQ n m d)) ∧ Below w.heap.size w w' :=
  (rmost_any n m d w hd).mono fun _ _ ⟨h1, h2⟩ => ⟨h1, below_eq h2⟩
theorem apart_w (N M W : Nat) (w : World) (hN : N ≤ 1048576) (hM : M ≤ 1048576) (hW : max N M - min N M = W) :
    Calls Try.prog 21 #[.int .i64 (N : Int), .int .i64 (M : Int)] w fun e w' => e = .returned (.int .i64 (W : Int)) ∧ Below w.heap.size w w' :=
  (apart_any N M W w hN hM hW).mono fun _ _ ⟨h1, h2⟩ => ⟨h1, below_eq h2⟩
theorem farI_le (a b : List Int) (p : Int) : (farI a b p).length ≤ 3 * (a.length + b.length) + 1 := by
  obtain ⟨h1, h2, h3, _, _⟩ := sht_len a b
  unfold farI
  split
  · rename_i h
    rw [farL_length]
    omega
  · simp
theorem u64_six (p : Int) : ∃ U P : Nat, IntKind.u64.wrap p = (U : Int) ∧ (U : Int).tmod 6 = (P : Int) ∧ (U : Int) % 6 = (P : Int) ∧ P ≤ 5 ∧ wrap64 (P : Int) = (P : Int) := by
  have h : 0 ≤ IntKind.u64.wrap p := by
    simp only [IntKind.wrap, IntKind.bits, IntKind.signed]
    simp
    omega
  generalize IntKind.u64.wrap p = z at *
  obtain ⟨U, rfl⟩ : ∃ U : Nat, z = (U : Int) := ⟨z.toNat, by omega⟩
  refine ⟨U, U % 6, rfl, ?_, by omega, by omega, ?_⟩
  · rw [Int.tmod_eq_emod_of_nonneg h]
    omega
  · unfold wrap64
    omega
theorem conv_up (w : World) (p : Int) : (convert 3 35 (.int .i64 p)).run Try.prog w = .ok (.int .u64 (IntKind.u64.wrap p)) w := by
  unfold convert
  rw [Sem.run_bind, run_underlying Try.underlying3, Result.andThen_ok, Sem.run_bind, run_underlying Try.underlying35, Result.andThen_ok]
  rfl
theorem conv_dn (w : World) (p : Int) : (convert 35 3 (.int .u64 p)).run Try.prog w = .ok (.int .i64 (IntKind.i64.wrap p)) w := by
  unfold convert
  rw [Sem.run_bind, run_underlying Try.underlying35, Result.andThen_ok, Sem.run_bind, run_underlying Try.underlying3, Result.andThen_ok]
  rfl
theorem six_in (p : Int) : ∃ U P : Nat, (∀ w, (convert 3 35 (.int .i64 p)).run Try.prog w = .ok (.int .u64 (U : Int)) w) ∧ (∀ w, (convert 35 3 (.int .u64 (P : Int))).run Try.prog w = .ok (.int .i64 (P : Int)) w) ∧ (U : Int).tmod 6 = (P : Int) ∧ P ≤ 5 := by
  obtain ⟨U, P, p1, p2, _, p4, _⟩ := u64_six p
  refine ⟨U, P, fun w => by rw [conv_up, p1], fun w => ?_, p2, p4⟩
  clear p1 p2
  rw [conv_dn, IntWalk.i64_in _ (by omega)]
/-- The list ahead of cost P. -/
def wasL (x y : List Int) : Nat → List Int
  | 0 => []
  | Q + 1 => farI x y (Q : Int)

/-- The head of a round of OnpGoes. -/
def GoRel (x y : List Int) (R : Nat) (w : World) (v p : Value) (wr : World) : Prop :=
  ∃ P : Nat, P ≤ R + 1 ∧ p = .int .i64 (P : Int) ∧ (∃ A c, v = .slice A (wasL x y P).length c ∧ Row wr A (iv (wasL x y P))) ∧ Below w.heap.size w wr
theorem was_grow {x y : List Int} {P t : Nat} (hP : P ≤ (sht x y).length) (ht : t < (wasL x y P).length) : ∃ f g : Int, (wasL x y P)[t]? = some f ∧ (farI x y (P : Int))[t + 1]? = some g ∧ f ≤ g := by
  cases P with
  | zero => exact absurd ht (by simp [wasL])
  | succ Q =>
    have ht' : t < (farI x y (Q : Int)).length := ht
    rw [farI_len (by omega)] at ht'
    exact farI_grow hP ht'
theorem was_len {x y : List Int} {P : Nat} (hP : P ≤ (sht x y).length + 1) : (wasL x y P).length ≤ wdt x y + 2 * P := by
  cases P with
  | zero => simp [wasL]
  | succ Q =>
    show (farI x y (Q : Int)).length ≤ _
    rw [farI_len (by omega)]
    omega

end Go.Proofs.Ytgbcdeahiemhoaa

namespace Go.Proofs.Ytgbcdeahiemhoaa
open Go.RowKit

set_option maxRecDepth 100000 in
set_option maxHeartbeats 1600000 in
theorem awake18 (w : World) : Calls Try.prog 11 #[] w (Yes w) := by
  go_enter Try.func11, Try.ntmps11
  go_wp2_with fail
  refine (odist_any _ _ 3 3 3 3 [1, 2, 3] [1, 9, 3] _ rfl rfl (by decide) (by decide) (by decide) (by decide) ((row_lit (iv [1, 2, 3]) 3 (by simp)).alloc _) (row_lit (iv [1, 9, 3]) 3 (by simp))).mono ?_
  rintro e w1 ⟨rfl, hb⟩
  have B := below_go (below_al (below_al (Below.refl _ _) _) _) hb
  have bb := B
  clear B hb
  rw [show dist [1, 2, 3] [1, 9, 3] = 2 by decide +kernel, show stN (wdt [1, 2, 3] [1, 9, 3]) (rgt [1, 2, 3] [1, 9, 3] + 1) = 4 by decide +kernel]
  go_wp2_with fail
  refine (orun_any _ _ 3 3 3 3 [1, 2, 3] [1, 9, 3] _ rfl rfl (by decide) (by decide) (by decide) (by decide) ((row_lit (iv [1, 2, 3]) 3 (by simp)).alloc _) (row_lit (iv [1, 9, 3]) 3 (by simp))).mono ?_
  rintro e w2 ⟨v, l, rfl, ⟨hG, hL⟩, hv, hb⟩
  have B := below_go (below_al (below_al (Below.refl _ _) _) _) hb
  replace bb := below_go bb B
  clear B hb
  obtain ⟨_, _, rfl, _, _, _, _⟩ := own_sliceS hv
  clear hv hG
  rw [hL, show lcs [1, 2, 3] [1, 9, 3] = 2 by decide +kernel, show stN (wdt [1, 2, 3] [1, 9, 3]) (rgt [1, 2, 3] [1, 9, 3] + 1) = 4 by decide +kernel]
  clear hL
  go_wp2_with fail
  refine (most_w (3) (3) (2) _ (by unfold I64; decide)).mono ?_
  rintro e w3 ⟨rfl, hb⟩
  have B := below_go (Below.refl _ _) hb
  replace bb := below_go bb B
  clear B hb
  rw [show mostQ (3) (3) (2) = 4 by decide +kernel]
  go_wp2_with fail
  refine (ofar_any _ _ 0 0 0 0 (0) [] [] _ rfl rfl (by decide) (by decide) (by decide) (by decide) (Row.nil _ _) (Row.nil _ _)).mono ?_
  rintro e w4 ⟨v, rfl, hv, hb⟩
  have B := below_go (Below.refl _ _) hb
  replace bb := below_go bb B
  clear B hb
  rw [show farI [] [] (0) = [0] by decide +kernel] at hv
  obtain ⟨V_x, c_x, rfl, _, _, r_x, _⟩ := own_slice hv
  clear hv
  clear r_x
  go_wp2_with fail
  go_ret
  exact Yes.of bb

end Go.Proofs.Ytgbcdeahiemhoaa
