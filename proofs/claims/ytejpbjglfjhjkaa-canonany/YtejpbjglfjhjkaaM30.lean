/-
  Words and contracts that the proof leans on.
-/
import Derived.Test.YtejpbjglfjhjkaaM28
import Derived.Test.YtejpbjglfjhjkaaM29
import Derived.BigQuiet
namespace Go.Proofs.Ytejpbjglfjhjkaa
open Go.RowKit

/-- What a call leaves that returns a row to read. -/
def RowOf (l : List Int) (w : World) (e : Ending) (w' : World) : Prop := ∃ A, e = .returned (.slice A l.length l.length) ∧ Row w' A (iv l) ∧ Below w.heap.size w w'

set_option maxHeartbeats 800000 in
theorem rfront_any (A B : Option Addr) (n m c d : Nat) (a b : List Int) (w : World) (hn : a.length = n) (hm : b.length = m) (hb : n ≤ 1048576) (hb' : m ≤ 1048576) (h1 : Row w A (iv a)) (h2 : Row w B (iv b)) :
    Calls Try.prog 30 #[.slice A n c, .slice B m d] w (RowOf (frontL a b) w) := by
  have C := Lib.hid (rahead_any A B n m c d a b w hn hm hb hb' h1 h2)
  have HL : Hid ((frontL a b).length = m + 1) := by show _ = _; rw [frontL_length, hm]
  have HE : Hid (frontL a b = rowL m fun c => ((px a b n c : Nat) : Int)) := by show _ = _; unfold frontL; rw [hm, hn]
  clear h1 h2 hn hm
  go_enter Try.func30, Try.ntmps30
  go_wp2_with fail
  refine C.out.mono ?_
  rintro e w1 ⟨T, blk, rfl, _, ⟨t1, t2⟩, hB⟩
  have c1 := t1.cell (i := n) (by omega)
  have HF : Hid (RowOf (frontL a b) w (.returned (.slice (some ⟨blk n, 0, none⟩) (m + 1) (m + 1))) w1) := by
    refine ⟨_, by rw [HL.out], ?_, hB⟩
    rw [HE.out]
    exact Row.of_own (own_isRow (B := 0) (t2 n (Nat.le_refl _)) (Nat.zero_le _) (by unfold maxLen; omega))
  clear t1 t2 hB C
  go_wp2_with fail
  go_ret
  exact HF.out

set_option maxHeartbeats 800000 in
theorem rback_any (A B : Option Addr) (n m c d : Nat) (a b : List Int) (w : World) (hn : a.length = n) (hm : b.length = m) (hb : n ≤ 1048576) (hb' : m ≤ 1048576) (h1 : Row w A (iv a)) (h2 : Row w B (iv b)) :
    Calls Try.prog 31 #[.slice A n c, .slice B m d] w (RowOf (backL a b) w) := by
  have C := Lib.hid (behind_any A B n m c d a b w hn hm hb hb' h1 h2)
  have HL : Hid ((backL a b).length = m + 1) := by show _ = _; rw [backL_length, hm]
  have HE : Hid (backL a b = rowL m fun c => ((lx a b 0 c : Nat) : Int)) := by show _ = _; unfold backL; rw [hm]
  clear h1 h2 hn hm
  go_enter Try.func31, Try.ntmps31
  go_wp2_with fail
  refine C.out.mono ?_
  rintro e w1 ⟨rfl, hT, hB⟩
  obtain ⟨t1, t2⟩ := hT 0 (Nat.zero_le _)
  simp only [Nat.sub_zero] at t1 t2
  have HF : Hid (RowOf (backL a b) w (.returned (.slice (some ⟨w.heap.size + 1 + n, 0, none⟩) (m + 1) (m + 1))) w1) := by
    refine ⟨_, by rw [HL.out], ?_, hB⟩
    rw [HE.out]
    refine fun _ => ⟨_, 0, rfl, fun i u hu => ?_⟩
    unfold iv at hu
    rw [List.getElem?_map] at hu
    rcases Nat.lt_or_ge i (m + 1) with g | g
    · rw [rowL_get (by omega)] at hu
      simp only [Option.map_some, Option.some.injEq] at hu
      rw [Nat.zero_add, t2 i (by omega), ← hu]
    · rw [List.getElem?_eq_none (by rw [rowL_length]; omega)] at hu
      cases hu
  clear t2 hB C hT
  go_wp2_with fail
  go_ret
  exact HF.out

end Go.Proofs.Ytejpbjglfjhjkaa

namespace Go.Proofs.Ytejpbjglfjhjkaa
open Go.RowKit

/-- The head of a round. -/
def RsRel (f g : List Int) (n : Nat) (w : World) (at' j : Value) (wr : World) : Prop :=
  ∃ k q : Nat, 1 ≤ k ∧ k ≤ n ∧ j = .int .i64 (k : Int) ∧ at' = .int .i64 ((spR f g k).1 : Nat) ∧ wr = w.drewN q
theorem spR_lt (f g : List Int) {k : Nat} (h : 1 ≤ k) : (spR f g k).1 < k := by
  obtain ⟨_, h2, _⟩ := spR_is f g k
  omega

set_option maxRecDepth 100000 in
set_option maxHeartbeats 1600000 in
theorem refSplit_any (A B : Option Addr) (n m c d : Nat) (f g : List Int) (w : World) (hn : f.length = n) (hm : g.length = m) (hb : n ≤ 1048577) (h1 : Row w A (iv f)) (h2 : Row w B (iv g)) :
    Calls Try.prog 29 #[.slice A n c, .slice B m d] w fun e w' => e = .returned (.tuple #[.int .i64 ((splitL f g).1 : Nat), .int .i64 (splitL f g).2]) ∧ ∃ q, w' = w.drewN q := by
  have HN := Lib.hid hn
  have HM := Lib.hid hm
  clear hn hm
  by_cases hf : n = m
  case neg =>
    have HE : Hid (splitL f g = (0, 0)) := if_pos (.inr (by rw [HN.out, HM.out]; exact hf))
    rw [HE.out]
    have e1 : ((n : Int) != (m : Int)) = true := by simp; omega
    clear h1 h2 HE
    go_enter Try.func29, Try.ntmps29
    go_wp2_with fail
    go_ret2
    exact ⟨rfl, 0, rfl⟩
  subst hf
  have e1 : ((n : Int) != (n : Int)) = false := by simp
  by_cases h0 : n = 0
  · have HE : Hid (splitL f g = (0, 0)) := if_pos (.inl (by rw [HN.out]; exact h0))
    rw [HE.out]
    subst h0
    clear h1 h2 HE
    go_enter Try.func29, Try.ntmps29
    go_wp2_with fail
    go_ret2
    exact ⟨rfl, 0, rfl⟩
  · have e0 : ((n : Int) == 0) = false := by simp; omega
    have HE : Hid (splitL f g = spR f g n) := by show splitL f g = _; unfold splitL; rw [if_neg (by rw [HN.out, HM.out]; omega), HN.out]
    rw [HE.out]
    obtain ⟨gf, of, rfl, _⟩ := h1.int (k := 0) (by rw [HN.out]; omega)
    obtain ⟨gg, og, rfl, _⟩ := h2.int (k := 0) (by rw [HM.out]; omega)
    clear HE
    go_enter Try.func29, Try.ntmps29
    go_wp2_with fail
    go_loopw [6, 7] (fun a j wr => RsRel f g n w a j wr) (fun _ j _ => n - (intOf j).toNat)
    case atStart =>
      refine ⟨1, 0, Nat.le_refl _, by omega, rfl, ?_, rfl⟩
      have := spR_lt f g (Nat.le_refl 1)
      rw [show (spR f g 1).1 = 0 by omega]
      rfl
    case round =>
      obtain ⟨k, q, hk1, hk, rfl, rfl, rfl⟩ := hrel
      have hp := spR_lt f g hk1
      obtain ⟨s1, _⟩ := spR_is f g k
      have HS1 := Lib.hid s1
      clear s1
      have t3 := h1.nth (k := (spR f g k).1) (by rw [HN.out]; omega)
      have t4 := h2.nth (k := (spR f g k).1) (by rw [HM.out]; omega)
      by_cases hlt : k < n
      · have t1 := h1.nth (k := k) (by rw [HN.out]; omega)
        have t2 := h2.nth (k := k) (by rw [HM.out]; omega)
        have HP : Hid (spR f g (k + 1) = if (spR f g k).2 < sumAt f g k then (k, sumAt f g k) else spR f g k) := rfl
        have HS : Hid (sumAt f g k = IntKind.i64.wrap (nth f k + nth g k)) := rfl
        have HS2 : Hid (sumAt f g (spR f g k).1 = IntKind.i64.wrap (nth f (spR f g k).1 + nth g (spR f g k).1)) := rfl
        have R := Lib.hid (fun (a : Nat) (q : Nat) (h : (spR f g (k + 1)).1 = a) => (⟨k + 1, q, by omega, by omega, rfl, by rw [h], rfl⟩ : RsRel f g n w (.int .i64 (a : Int)) (.int .i64 ((k + 1 : Nat) : Int)) (w.drewN q)))
        rw [HS1.out, HS2.out, HS.out] at HP
        generalize spR f g (k + 1) = P1 at *
        generalize spR f g k = P0 at *
        obtain ⟨p, s⟩ := P0
        simp only at *
        generalize nth f k = X at *
        generalize nth g k = Y at *
        generalize nth f p = X' at *
        generalize nth g p = Y' at *
        clear HS HS2 HS1
        obtain ⟨S, hS⟩ : ∃ S, IntKind.i64.wrap (X + Y) = S := ⟨_, rfl⟩
        obtain ⟨S', hS'⟩ : ∃ S, IntKind.i64.wrap (X' + Y') = S := ⟨_, rfl⟩
        have hT : wrap64 (X + Y) = S := by rw [← IntWalk.i64_left]; exact hS
        have hT' : wrap64 (X' + Y') = S' := by rw [← IntWalk.i64_left]; exact hS'
        rw [hS, hS'] at HP
        by_cases hp : S' < S
        · rw [if_pos hp] at HP
          go_wp2_with fail
          go_quiet (fail)
          go_wp2_with fail
          go_roundw
          case rel => exact R.out _ _ (by rw [HP.out])
          case measure => simp [intOf]; omega
        · rw [if_neg hp] at HP
          go_wp2_with fail
          go_quiet (fail)
          go_wp2_with fail
          go_roundw
          case rel => exact R.out _ _ (by rw [HP.out])
          case measure => simp [intOf]; omega
      · obtain rfl : k = n := by omega
        have HF : Hid ((spR f g k).2 = IntKind.i64.wrap (nth f (spR f g k).1 + nth g (spR f g k).1)) := HS1.out
        obtain ⟨p, hp0⟩ : ∃ p, (spR f g k).1 = p := ⟨_, rfl⟩
        have HP := Lib.hid hp0
        rw [hp0] at HF t3 t4 hp
        generalize nth f p = X' at *
        generalize nth g p = Y' at *
        rw [IntWalk.i64_left] at HF
        clear h1 h2 HS1 hp0
        go_wp2_with fail
        rw [HP.out]
        go_quiet (fail)
        go_wp2_with fail
        go_ret2
        refine ⟨?_, q + nq, by rw [World.drewN_drewN]⟩
        rw [HF.out, HP.out]
        rfl

end Go.Proofs.Ytejpbjglfjhjkaa
