/-
  Package tile: Look, New.
-/
import Derived.Test.YtbfgfeggiicmbaaTlE
namespace Go.Proofs.Ytbfgfeggiicmbaa
open Go.RowKit

/-- There is such a square. -/
def inSq (t : Nat) (eq top left : Int) : Prop := (0 ≤ eq ∧ eq < ((2 ^ (t * t) : Nat) : Int)) ∧ (0 ≤ top ∧ top < ((2 ^ t : Nat) : Int)) ∧ (0 ≤ left ∧ left < ((2 ^ t : Nat) : Int))
instance (t : Nat) (eq top left : Int) : Decidable (inSq t eq top left) := by unfold inSq; infer_instance
def three (a b e : Int) : Value := .tuple #[.int .i64 a, .int .i64 b, .int .i64 e]
/-- What Look tells. -/
def lookV (t : Nat) (eq top left : Int) : Value := if inSq t eq top left then three (botN t eq.toNat top.toNat left.toNat : Nat) (rgtN t eq.toNat top.toNat left.toNat : Nat) 0 else three 0 0 1
def LkMade (t b : Nat) (eq top left : Int) (w : World) (e : Ending) (w' : World) : Prop := e = .returned (lookV t eq top left) ∧ TilD t b w' ∧ w.grownBy w' (some b)
theorem lookV_no {t : Nat} {eq top left : Int} (h : ¬ inSq t eq top left) : lookV t eq top left = .tuple #[.int .i64 0, .int .i64 0, .int .i64 1] := by unfold lookV; rw [if_neg h]; rfl
theorem lookV_yes {t e p l : Nat} (h : inSq t e p l) : lookV t e p l = .tuple #[.int .i64 (botN t e p l : Nat), .int .i64 (rgtN t e p l : Nat), .int .i64 0] := by unfold lookV; rw [if_pos h]; rfl
theorem sq_side {t : Nat} (ht : t ≤ 3) : t * t ≤ 9 := Nat.mul_le_mul ht ht
/-- Where a square lies. -/
theorem blk_at {t e p l : Nat} (hp : p < 2 ^ t) (hl : l < 2 ^ t) : blkN t ((e * 2 ^ t + p) * 2 ^ t + l) = botN t e p l * 2 ^ t + rgtN t e p l := by
  have hpos := Nat.two_pow_pos t
  have e1 : ((e * 2 ^ t + p) * 2 ^ t + l) / 2 ^ t = e * 2 ^ t + p := by
    rw [Nat.add_comm, Nat.add_mul_div_right _ _ hpos, Nat.div_eq_of_lt hl, Nat.zero_add]
  have e2 : ((e * 2 ^ t + p) * 2 ^ t + l) % 2 ^ t = l := by
    rw [Nat.add_comm, Nat.add_mul_mod_self_right, Nat.mod_eq_of_lt hl]
  have e3 : (e * 2 ^ t + p) / 2 ^ t = e := by
    rw [Nat.add_comm, Nat.add_mul_div_right _ _ hpos, Nat.div_eq_of_lt hp, Nat.zero_add]
  have e4 : (e * 2 ^ t + p) % 2 ^ t = p := by
    rw [Nat.add_comm, Nat.add_mul_mod_self_right, Nat.mod_eq_of_lt hp]
  unfold blkN
  rw [e1, e2, e3, e4]
theorem blk_lt {t e p l : Nat} (he : e < 2 ^ (t * t)) (hp : p < 2 ^ t) (hl : l < 2 ^ t) : (e * 2 ^ t + p) * 2 ^ t + l < sizN t := by
  unfold sizN
  have h1 : e * 2 ^ t + p < 2 ^ (t * t) * 2 ^ t := by
    have := Nat.mul_le_mul_right (2 ^ t) (show e + 1 ≤ 2 ^ (t * t) from he)
    rw [Nat.add_mul] at this
    omega
  have h2 := Nat.mul_le_mul_right (2 ^ t) (show (e * 2 ^ t + p) + 1 ≤ _ from h1)
  rw [Nat.add_mul] at h2
  rw [show t * t + 2 * t = t * t + t + t by omega, Nat.pow_add, Nat.pow_add]
  omega
theorem blk_split {t x y : Nat} (hy : y < 2 ^ t) : (x * 2 ^ t + y) / 2 ^ t = x ∧ (x * 2 ^ t + y) % 2 ^ t = y := by
  have hpos := Nat.two_pow_pos t
  exact ⟨by rw [Nat.add_comm, Nat.add_mul_div_right _ _ hpos, Nat.div_eq_of_lt hy, Nat.zero_add], by rw [Nat.add_comm, Nat.add_mul_mod_self_right, Nat.mod_eq_of_lt hy]⟩
theorem split_quiet (k t : Nat) (w : World) (q : Nat) (hk : k < 2 ^ 30) (ht : 1 ≤ t ∧ t ≤ 3) :
    Calls Try.prog 20 #[.int .i64 (k : Int), .int .i64 (t : Int)] (w.drewN q) fun e w' => e = .returned (.tuple #[.int .i64 ((k / 2 ^ t : Nat) : Int), .int .i64 ((k % 2 ^ t : Nat) : Int)]) ∧ ∃ k, w' = w.drewN k :=
  (split_any k t (w.drewN q) hk ht).mono fun _ _ h => by
    obtain ⟨h1, k', rfl⟩ := h
    exact ⟨h1, q + k', by rw [World.drewN_drewN]⟩

set_option maxRecDepth 100000 in
set_option maxHeartbeats 1600000 in
theorem look_any (t b : Nat) (eq top left : Int) (w : World) (ht : 1 ≤ t ∧ t ≤ 3) (h : Til t b w) :
    Calls Try.prog 11 #[.pointer (some ⟨b, 0, none⟩), .int .i64 eq, .int .i64 top, .int .i64 left] w (LkMade t b eq top left w) := by
  have HD := Lib.hid (do_any t b w ht h)
  clear h
  have hmf : ∀ (fn : Fn) (first cap : Array Value) (w : World), (Instr.makeFunc fn first cap).run Try.prog w = .ok (.func fn first cap) w := fun _ _ _ _ => rfl
  obtain ⟨X, hX⟩ : ∃ X, t * t = X := ⟨_, rfl⟩
  have eX : (t : Int) * (t : Int) = (X : Int) := by rw [← hX]; simp
  have hX9 : X ≤ 9 := by rw [← hX]; exact sq_side ht.2
  go_enter Try.func11, Try.ntmps11
  go_upto_region 2 with (go_at_call 17; refine HD.out.mono ?_; rintro e w1 ⟨rfl, hT, hG⟩)
  obtain ⟨g, hO, hBl, hne⟩ := hT
  have k0 := hO.c0
  have HQ : Hid (¬ inSq t eq top left → LkMade t b eq top left w (.returned (.tuple #[.int .i64 0, .int .i64 0, .int .i64 1])) w1) := fun h => ⟨by rw [lookV_no h], ⟨g, hO, hBl, hne⟩, hG⟩
  by_cases h1 : 0 ≤ eq ∧ eq < ((2 ^ X : Nat) : Int)
  · have F1 := Lib.hid (fits_any eq X w1 hX9)
    rw [decide_eq_true h1] at F1
    by_cases h2 : 0 ≤ top ∧ top < ((2 ^ t : Nat) : Int)
    · have F2 := Lib.hid (fits_any top t w1 (by omega))
      rw [decide_eq_true h2] at F2
      by_cases h3 : 0 ≤ left ∧ left < ((2 ^ t : Nat) : Int)
      · have F3 := Lib.hid (fits_any left t w1 (by omega))
        rw [decide_eq_true h3] at F3
        obtain ⟨E, rfl⟩ := Int.eq_ofNat_of_zero_le h1.1
        obtain ⟨T, rfl⟩ := Int.eq_ofNat_of_zero_le h2.1
        obtain ⟨L, rfl⟩ := Int.eq_ofNat_of_zero_le h3.1
        have l1 : E < 2 ^ X := by omega
        have l2 : T < 2 ^ t := by omega
        have l3 : L < 2 ^ t := by omega
        have HL : Hid (lookV t (E : Int) (T : Int) (L : Int) = .tuple #[.int .i64 (botN t E T L : Nat), .int .i64 (rgtN t E T L : Nat), .int .i64 0]) := lookV_yes ⟨by rw [hX]; exact h1, h2, h3⟩
        have HK := blk_lt (t := t) (by rw [hX]; exact l1) l2 l3
        have p1 : w1.cell? ⟨g, (E * 2 ^ t + T) * 2 ^ t + L, none⟩ = some (.int .u8 (blkN t ((E * 2 ^ t + T) * 2 ^ t + L) : Nat)) := by
          rw [World.rowIs.cell hBl HK, if_pos HK]
        rw [blk_at l2 l3] at p1
        obtain ⟨hV1, hV2⟩ := blk_split (t := t) (x := botN t E T L) (rgtN_lt t E T L)
        have n1 := botN_lt t E T L
        have n2 := rgtN_lt t E T L
        have b4 := hO.c4
        have hN := sizN_le ht.2
        have HR : Hid (∀ q, LkMade t b (E : Int) (T : Int) (L : Int) w (.returned (.tuple #[.int .i64 (botN t E T L : Nat), .int .i64 (rgtN t E T L : Nat), .int .i64 0])) (w1.drewN q)) := fun q => ⟨by rw [HL.out], ⟨g, hO, hBl, hne⟩, grown_drewN hG q⟩
        have h8 : 2 ^ t ≤ 8 := Nat.pow_le_pow_right (n := 2) (by decide) ht.2
        have hE9 : E < 512 := Nat.lt_of_lt_of_le l1 (Nat.pow_le_pow_right (n := 2) (by decide) hX9)
        generalize botN t E T L = bo at *
        generalize rgtN t E T L = ri at *
        obtain ⟨V, hV⟩ : ∃ V, bo * 2 ^ t + ri = V := ⟨_, rfl⟩
        have hV6 : V < 64 := by
          have := Nat.mul_le_mul_right (2 ^ t) (show bo ≤ 7 by omega)
          omega
        rw [hV] at p1 hV1 hV2
        have HSp : Hid (∀ q, Calls Try.prog 20 #[.int .i64 (V : Int), .int .i64 (t : Int)] (w1.drewN q) fun e w' => e = .returned (.tuple #[.int .i64 (bo : Int), .int .i64 (ri : Int)]) ∧ ∃ k, w' = w1.drewN k) := by
          intro q
          have := split_quiet V t w1 q (by omega) ht
          rw [hV1, hV2] at this
          exact this
        obtain ⟨E1, hE1⟩ : ∃ x, E * 2 ^ t = x := ⟨_, rfl⟩
        obtain ⟨E3, hE3⟩ : ∃ x, (E1 + T) * 2 ^ t = x := ⟨_, rfl⟩
        have m1 : E1 ≤ 511 * 8 := by rw [← hE1]; exact Nat.mul_le_mul (by omega) h8
        have m3 : E3 ≤ 4095 * 8 := by rw [← hE3]; exact Nat.mul_le_mul (by omega) h8
        have q1 : (E : Int) * 2 ^ t = (E1 : Int) := by rw [← hE1]; simp
        have q3 : ((E1 + T : Nat) : Int) * 2 ^ t = (E3 : Int) := by rw [← hE3]; simp
        have q2 := or_join (a := E) (b := T) (t := t) (by omega) l2 (by omega)
        have q4 := or_join (a := E1 + T) (b := L) (t := t) (by omega) l3 (by omega)
        rw [hE1] at q2 p1 HK
        rw [hE3] at q4 p1 HK
        obtain ⟨E2, hE2⟩ : ∃ x, E1 + T = x := ⟨_, rfl⟩
        obtain ⟨K, hK⟩ : ∃ x, E3 + L = x := ⟨_, rfl⟩
        rw [hE2] at q2 q3
        rw [hK] at q4 p1 HK
        have s1 : IntKind.i64.wrap (E1 : Int) = (E1 : Int) := IntWalk.i64_in _ (by omega)
        have s3 : IntKind.i64.wrap (E3 : Int) = (E3 : Int) := IntWalk.i64_in _ (by omega)
        have s5 : IntKind.i64.wrap (V : Int) = (V : Int) := IntWalk.i64_in _ (by omega)
        generalize sizN t = N at *
        clear HQ hO hBl hG h1 h2 h3 hE1 hE2 hE3 hK hV hV1 hV2 hX n1 n2 l1 l2 l3 h8 HL
        go_wp2_with fail
        refine F1.out.mono ?_
        rintro e w' ⟨rfl, rfl⟩
        go_wp2_with fail
        refine F2.out.mono ?_
        rintro e w' ⟨rfl, rfl⟩
        go_wp2_with fail
        refine F3.out.mono ?_
        rintro e w' ⟨rfl, rfl⟩
        clear F1 F2 F3
        go_wp2_with fail
        go_quiet ((go_at_call 20; exact HSp.out _))
        go_wp2_with fail
        go_ret3
        exact HR.out _
      · have F3 := Lib.hid (fits_any left t w1 (by omega))
        rw [decide_eq_false h3] at F3
        have HR := Lib.hid (HQ.out (fun h => h3 h.2.2))
        clear HQ hO hBl hG h1 h2 h3
        go_wp2_with fail
        refine F1.out.mono ?_
        rintro e w' ⟨rfl, rfl⟩
        go_wp2_with fail
        refine F2.out.mono ?_
        rintro e w' ⟨rfl, rfl⟩
        go_wp2_with fail
        refine F3.out.mono ?_
        rintro e w' ⟨rfl, rfl⟩
        go_wp2_with fail
        go_ret3
        exact HR.out
    · have F2 := Lib.hid (fits_any top t w1 (by omega))
      rw [decide_eq_false h2] at F2
      have HR := Lib.hid (HQ.out (fun h => h2 h.2.1))
      clear HQ hO hBl hG h1 h2
      go_wp2_with fail
      refine F1.out.mono ?_
      rintro e w' ⟨rfl, rfl⟩
      go_wp2_with fail
      refine F2.out.mono ?_
      rintro e w' ⟨rfl, rfl⟩
      go_wp2_with fail
      go_ret3
      exact HR.out
  · have F1 := Lib.hid (fits_any eq X w1 hX9)
    rw [decide_eq_false h1] at F1
    have HR := Lib.hid (HQ.out (fun h => h1 (by rw [← hX]; exact h.1)))
    clear HQ hO hBl hG h1
    go_wp2_with fail
    refine F1.out.mono ?_
    rintro e w' ⟨rfl, rfl⟩
    go_wp2_with fail
    go_ret3
    exact HR.out

/-- What New leaves. -/
def NwMade (t : Int) (w : World) (e : Ending) (w' : World) : Prop :=
  (1 ≤ t ∧ t ≤ 3 ∧ e = .returned (.tuple #[.pointer (some ⟨w.heap.size, 0, none⟩), .int .i64 0]) ∧ TilO t.toNat w.heap.size 0 0 (.slice none 0 0) w' ∨ ¬ (1 ≤ t ∧ t ≤ 3) ∧ e = .returned (.tuple #[.pointer none, .int .i64 1])) ∧ Below w.heap.size w w'

theorem tilO_new (t : Nat) (w : World) : TilO t w.heap.size 0 0 (.slice none 0 0) (w.alloc (.cells #[.int .i64 (t : Int), .int .u32 0, .int .i32 0, .int .u32 0, .slice none 0 0] 52)) :=
  World.rowIs_alloc w _ _ _ (cv5_cases rfl rfl rfl rfl rfl)

set_option maxHeartbeats 800000 in
theorem new_any (t : Int) (w : World) : Calls Try.prog 8 #[.int .i64 t] w (NwMade t w) := by
  by_cases h1 : t < 1
  · have HQ : Hid (NwMade t w (.returned (.tuple #[.pointer none, .int .i64 1])) w) := ⟨.inr ⟨by omega, rfl⟩, Below.refl _ _⟩
    go_enter Try.func8, Try.ntmps8
    go_wp2_with fail
    go_ret2
    exact HQ.out
  · by_cases h2 : 3 < t
    · have HQ : Hid (NwMade t w (.returned (.tuple #[.pointer none, .int .i64 1])) w) := ⟨.inr ⟨by omega, rfl⟩, Below.refl _ _⟩
      go_enter Try.func8, Try.ntmps8
      go_wp2_with fail
      go_ret2
      exact HQ.out
    · obtain ⟨n, rfl⟩ := Int.eq_ofNat_of_zero_le (show 0 ≤ t by omega)
      have HQ : Hid (NwMade (n : Int) w (.returned (.tuple #[.pointer (some ⟨w.heap.size, 0, none⟩), .int .i64 0])) (w.alloc (.cells #[.int .i64 (n : Int), .int .u32 0, .int .i32 0, .int .u32 0, .slice none 0 0] 52))) := ⟨.inl ⟨by omega, by omega, rfl, tilO_new n w⟩, below_a1 _ _⟩
      go_enter Try.func8, Try.ntmps8
      go_wp2_with fail
      go_ret2
      exact HQ.out

end Go.Proofs.Ytbfgfeggiicmbaa
