/-
  Package tile for the statements: the object is carried along.
-/
import Derived.Test.YtbfgfeggiicmbaaTlS
namespace Go.Proofs.Ytbfgfeggiicmbaa
open Go.RowKit

section
variable {t b : Nat} {w w' : World}
theorem Til.c0 (h : Til t b w) : w.cell? ⟨b, 0, none⟩ = some (.int .i64 (t : Int)) := by
  rcases h with ⟨v0, h⟩ | ⟨g, h, _⟩
  · exact h.c0
  · exact h.c0
theorem Til.below (h : Til t b w) (hb : Below w.heap.size w w') : Til t b w' := by
  rcases h with ⟨v0, h⟩ | ⟨g, h1, h2, h3⟩
  · exact .inl ⟨v0, h.below hb⟩
  · exact .inr ⟨g, h1.below hb, rowIs_grown h2 (below_grown hb none) (by simp), h3⟩
theorem Til.drewN (h : Til t b w) (q : Nat) : Til t b (w.drewN q) := h.below (below_drewN (Below.refl _ _) q)
end

theorem new_ok (t : Nat) (w : World) (ht : 1 ≤ t ∧ t ≤ 3) : Calls Try.prog 8 #[.int .i64 (t : Int)] w fun e w' => ∃ b, e = .returned (.tuple #[.pointer (some ⟨b, 0, none⟩), .int .i64 0]) ∧ TilO t b 0 0 (.slice none 0 0) w' ∧ w.heap.size ≤ b ∧ Below w.heap.size w w' := by
  refine (new_any (t : Int) w).mono fun e w' h => ?_
  obtain ⟨⟨_, _, h1, h2⟩ | ⟨h1, _⟩, hb⟩ := h
  · rw [Int.toNat_natCast] at h2
    exact ⟨w.heap.size, h1, h2, Nat.le_refl _, hb⟩
  · omega
theorem new_no (t : Int) (w : World) (ht : ¬ (1 ≤ t ∧ t ≤ 3)) : Calls Try.prog 8 #[.int .i64 t] w fun e w' => e = .returned (.tuple #[.pointer none, .int .i64 1]) ∧ Below w.heap.size w w' := by
  refine (new_any t w).mono fun e w' h => ?_
  obtain ⟨⟨h1, h2, _⟩ | ⟨_, h1⟩, hb⟩ := h
  · exact absurd ⟨h1, h2⟩ ht
  · exact ⟨h1, hb⟩
theorem of_ok (t : Nat) (w : World) (ht : 1 ≤ t ∧ t ≤ 3) : Calls Try.prog 9 #[.int .i64 (t : Int)] w fun e w' => ∃ b, e = .returned (.pointer (some ⟨b, 0, none⟩)) ∧ TilO t b 0 0 (.slice none 0 0) w' ∧ w.heap.size ≤ b ∧ Below w.heap.size w w' := by
  have HN := Lib.hid (new_ok t w ht)
  go_enter Try.func9, Try.ntmps9
  go_wp2_with fail
  refine HN.out.mono ?_
  rintro e w1 ⟨b, rfl, h1, h2, h3⟩
  have HQ : Hid (∃ b', Ending.returned (.pointer (some ⟨b, 0, none⟩)) = .returned (.pointer (some ⟨b', 0, none⟩)) ∧ TilO t b' 0 0 (.slice none 0 0) w1 ∧ w.heap.size ≤ b' ∧ Below w.heap.size w w1) := ⟨b, rfl, h1, h2, h3⟩
  clear h1 h2 h3 HN
  go_wp2_with fail
  go_ret
  exact HQ.out
theorem look_w (t b : Nat) (eq top left : Int) (V : Value) (w0 w : World) (ht : 1 ≤ t ∧ t ≤ 3) (h : Til t b w) (hb : Below w0.heap.size w0 w) (h0 : w0.heap.size ≤ b) (hV : lookV t eq top left = V) :
    Calls Try.prog 11 #[.pointer (some ⟨b, 0, none⟩), .int .i64 eq, .int .i64 top, .int .i64 left] w fun e w' => e = .returned V ∧ Til t b w' ∧ Below w0.heap.size w0 w' ∧ w.grownBy w' (some b) := by
  refine (look_any t b eq top left w ht h).mono fun e w' h' => ?_
  obtain ⟨h1, h2, h3⟩ := h'
  exact ⟨by rw [h1, hV], .inr h2, hb.grown h3 hb.size (fun k e => by cases e; exact h0), h3⟩
theorem side_w (b t : Nat) (w0 w : World) (h : Til t b w) (hb : Below w0.heap.size w0 w) : Calls Try.prog 14 #[.pointer (some ⟨b, 0, none⟩)] w fun e w' => e = .returned (.int .i64 (t : Int)) ∧ Til t b w' ∧ Below w0.heap.size w0 w' := by
  refine (side_any b t w h.c0).mono fun e w' h' => ?_
  obtain ⟨h1, rfl⟩ := h'
  exact ⟨h1, h, hb⟩
theorem size_w (b t : Nat) (w0 w : World) (ht : 1 ≤ t ∧ t ≤ 3) (h : Til t b w) (hb : Below w0.heap.size w0 w) : Calls Try.prog 12 #[.pointer (some ⟨b, 0, none⟩)] w fun e w' => e = .returned (.int .i64 (sizN t : Nat)) ∧ Til t b w' ∧ Below w0.heap.size w0 w' := by
  refine (size_any b t w ht h.c0).mono fun e w' h' => ?_
  obtain ⟨h1, q, rfl⟩ := h'
  exact ⟨h1, h.drewN q, below_drewN hb q⟩
/-- The square's table, to be reckoned. -/
def sqG (E : Nat → Nat → Bool) (T L : Nat → Nat) : Nat → Nat → Nat
  | 0 => fun c => Nat.rec 0 (fun c x => x + T c) c
  | r + 1 => fun c => Nat.rec (sqG E T L r 0 + L r) (fun c x => if E r c = true then sqG E T L r c + 1 else max (sqG E T L r (c + 1)) x) c
theorem sqG_is (E : Nat → Nat → Bool) (T L : Nat → Nat) : ∀ r c, sqF E T L r c = sqG E T L r c
  | 0, 0 => sq_00
  | 0, c + 1 => by rw [sq_0c, sqG_is E T L 0 c]; rfl
  | r + 1, 0 => by rw [sq_r0, sqG_is E T L r 0]; rfl
  | r + 1, c + 1 => by rw [sq_rc, sqG_is E T L r c, sqG_is E T L r (c + 1), sqG_is E T L (r + 1) c]; rfl
termination_by r c => (r, c)
def sqC (t eq top left : Nat) : Nat → Nat → Nat := sqG (fun r c => decide (bitN eq (r * t + c) = 1)) (bitN top) (bitN left)
theorem sqC_is (t eq top left : Nat) : sqN t eq top left = sqC t eq top left := by
  funext r c
  exact sqG_is _ _ _ r c
def botC (t eq top left : Nat) : Nat := num (fun c => sqC t eq top left t (c + 1) - sqC t eq top left t c) t
def rgtC (t eq top left : Nat) : Nat := num (fun r => sqC t eq top left (r + 1) t - sqC t eq top left r t) t
theorem botC_is (t eq top left : Nat) : botN t eq top left = botC t eq top left := by
  unfold botN botC
  refine num_congr fun k _ => ?_
  unfold botF
  rw [sqC_is]
theorem rgtC_is (t eq top left : Nat) : rgtN t eq top left = rgtC t eq top left := by
  unfold rgtN rgtC
  refine num_congr fun k _ => ?_
  unfold rgtF
  rw [sqC_is]
theorem lookV_lit {t : Nat} {eq top left B R : Int} (h : inSq t eq top left) (h1 : ((botC t eq.toNat top.toNat left.toNat : Nat) : Int) = B) (h2 : ((rgtC t eq.toNat top.toNat left.toNat : Nat) : Int) = R) : lookV t eq top left = .tuple #[.int .i64 B, .int .i64 R, .int .i64 0] := by
  unfold lookV
  rw [if_pos h, botC_is, rgtC_is, h1, h2]
  rfl
theorem lookV_some (t : Nat) (eq top left : Int) : ∃ A B C : Int, lookV t eq top left = .tuple #[.int .i64 A, .int .i64 B, .int .i64 C] := by
  unfold lookV three
  split
  · exact ⟨_, _, _, rfl⟩
  · exact ⟨_, _, _, rfl⟩
theorem inSq_of {t e p l : Nat} (h1 : e < 2 ^ (t * t)) (h2 : p < 2 ^ t) (h3 : l < 2 ^ t) : inSq t (e : Int) (p : Int) (l : Int) :=
  ⟨⟨Int.natCast_nonneg _, Int.ofNat_lt.2 h1⟩, ⟨Int.natCast_nonneg _, Int.ofNat_lt.2 h2⟩, Int.natCast_nonneg _, Int.ofNat_lt.2 h3⟩

set_option maxRecDepth 100000 in
set_option maxHeartbeats 1600000 in
theorem awake13 (w : World) : Calls Try.prog 10 #[] w (Yes w) := by
  have HN : Hid (Calls Try.prog 8 #[.int .i64 1] w _) := new_ok 1 w (by decide)
  have L1 : Hid (lookV 1 1 0 0 = .tuple #[.int .i64 1, .int .i64 1, .int .i64 0]) := lookV_lit (by decide) (by decide +kernel) (by decide +kernel)
  have L2 : Hid (lookV 1 0 1 0 = .tuple #[.int .i64 1, .int .i64 0, .int .i64 0]) := lookV_lit (by decide) (by decide +kernel) (by decide +kernel)
  go_enter Try.func10, Try.ntmps10
  go_wp2_with fail
  refine HN.out.mono ?_
  rintro e w1 ⟨b, rfl, hO, h0, hb⟩
  have hT : Til 1 b w1 := .inl ⟨_, hO⟩
  clear hO HN
  go_wp2_with fail
  refine (look_w 1 b 1 0 0 _ w w1 (by decide) hT hb h0 L1.out).mono ?_
  rintro e w2 ⟨rfl, hT, hb, _⟩
  clear L1
  go_wp2_with fail
  refine (look_w 1 b 0 1 0 _ w w2 (by decide) hT hb h0 L2.out).mono ?_
  rintro e w3 ⟨rfl, hT, hb, _⟩
  clear L2
  go_wp2_with fail
  refine (side_w b 1 w w3 hT hb).mono ?_
  rintro e w4 ⟨rfl, hT, hb⟩
  go_wp2_with fail
  refine (size_w b 1 w w4 (by decide) hT hb).mono ?_
  rintro e w5 ⟨rfl, hT, hb⟩
  rw [show sizN 1 = 8 by decide]
  go_wp2_with fail
  go_ret
  exact Yes.of hb

end Go.Proofs.Ytbfgfeggiicmbaa
