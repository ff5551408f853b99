/-
  How many bits of a word are 1, as math/bits.OnesCount64 reckons. Plain numbers.
-/
import Derived.Test.YthmfolekohomiaaVp5
namespace Go.Proofs.Ythmfolekohomiaa
open Go.RowKit

def p1 (m x : Nat) : Nat := (x / 2 &&& m) + (x &&& m)
def p2 (m x : Nat) : Nat := (x / 4 &&& m) + (x &&& m)
def p3 (m x : Nat) : Nat := (x / 16 + x) &&& m

theorem and_split (a b c d : Nat) (ha : a < 256) (hc : c < 256) : (a + 256 * b) &&& (c + 256 * d) = (a &&& c) + 256 * (b &&& d) := by
  have h1 : a &&& c < 256 := Nat.lt_of_le_of_lt Nat.and_le_left ha
  have e1 := Nat.and_mod_two_pow (a := a + 256 * b) (b := c + 256 * d) (n := 8)
  have e2 := Nat.and_div_two_pow (a := a + 256 * b) (b := c + 256 * d) (n := 8)
  rw [show (2 : Nat) ^ 8 = 256 from rfl] at e1 e2
  rw [show (a + 256 * b) % 256 = a by omega, show (c + 256 * d) % 256 = c by omega] at e1
  rw [show (a + 256 * b) / 256 = b by omega, show (c + 256 * d) / 256 = d by omega] at e2
  omega

theorem d1 : ∀ r, r < 2 → ∀ d, d < 256 → (d / 2 + 128 * r) &&& 85 = d / 2 &&& 85 := by decide +kernel
theorem d2 : ∀ r, r < 4 → ∀ d, d < 256 → (d / 4 + 64 * r) &&& 51 = d / 4 &&& 51 := by decide +kernel
theorem p1_split (d q m : Nat) (hd : d < 256) : p1 (85 + 256 * m) (d + 256 * q) = p1 85 d + 256 * p1 m q := by
  unfold p1
  rw [show (d + 256 * q) / 2 = (d / 2 + 128 * (q % 2)) + 256 * (q / 2) by omega, and_split _ _ _ _ (by omega) (by decide), and_split d q 85 m hd (by decide), d1 _ (by omega) d hd]
  omega
theorem p2_split (d q m : Nat) (hd : d < 256) : p2 (51 + 256 * m) (d + 256 * q) = p2 51 d + 256 * p2 m q := by
  unfold p2
  rw [show (d + 256 * q) / 4 = (d / 4 + 64 * (q % 4)) + 256 * (q / 4) by omega, and_split _ _ _ _ (by omega) (by decide), and_split d q 51 m hd (by decide), d2 _ (by omega) d hd]
  omega
theorem l1 : ∀ d, d < 256 → p1 85 d < 256 := by decide +kernel
theorem l2 : ∀ d, d < 256 → p2 51 (p1 85 d) < 80 ∧ p2 51 (p1 85 d) % 16 ≤ 4 := by decide +kernel
theorem l3 : ∀ d, d < 256 → p3 15 (p2 51 (p1 85 d)) ≤ 8 := by decide +kernel
/-- The word's bytes of pairs of pairs. -/
def pp (m1 m2 x : Nat) : Nat := p2 m2 (p1 m1 x)
theorem pp_split (d q m1 m2 : Nat) (hd : d < 256) : pp (85 + 256 * m1) (51 + 256 * m2) (d + 256 * q) = pp 85 51 d + 256 * pp m1 m2 q := by
  unfold pp
  rw [p1_split d q m1 hd, p2_split _ _ _ (l1 d hd)]
theorem d3 : ∀ r, r ≤ 4 → ∀ d, d < 80 → d % 16 ≤ 4 → (d / 16 + d + 16 * r) &&& 15 = (d / 16 + d) &&& 15 ∧ d / 16 + d + 16 * r < 256 := by decide +kernel
theorem p3_split (d q m : Nat) (hd : d < 80) (hd' : d % 16 ≤ 4) (hq : q % 16 ≤ 4) : p3 (15 + 256 * m) (d + 256 * q) = p3 15 d + 256 * p3 m q := by
  obtain ⟨e1, e2⟩ := d3 (q % 16) hq d hd hd'
  unfold p3
  rw [show (d + 256 * q) / 16 + (d + 256 * q) = (d / 16 + d + 16 * (q % 16)) + 256 * (q / 16 + q) by omega, and_split _ _ _ _ e2 (by decide), e1]

theorem cnt_split (d q n : Nat) (hd : d < 256) : cnt (d + 256 * q).testBit (8 + n) = cnt d.testBit 8 + cnt q.testBit n := by
  induction n with
  | zero =>
    have h : ∀ j, j ≤ 8 → cnt (d + 256 * q).testBit j = cnt d.testBit j := by
      intro j hj
      induction j with
      | zero => rfl
      | succ j ih =>
        have e : (d + 256 * q).testBit j = d.testBit j := by
          rw [Nat.add_comm, show 256 * q = 2 ^ 8 * q from rfl, Nat.testBit_two_pow_mul_add _ hd, if_pos (by omega)]
        rw [cnt, cnt, ih (by omega), e]
    rw [Nat.add_zero, h 8 (Nat.le_refl _)]
    rfl
  | succ n ih =>
    have e : (d + 256 * q).testBit (8 + n) = q.testBit n := by
      rw [Nat.add_comm, show 256 * q = 2 ^ 8 * q from rfl, Nat.testBit_two_pow_mul_add _ hd, if_neg (by omega), show 8 + n - 8 = n by omega]
    show cnt (d + 256 * q).testBit (8 + n) + (if (d + 256 * q).testBit (8 + n) = true then 1 else 0) = cnt d.testBit 8 + (cnt q.testBit n + (if q.testBit n = true then 1 else 0))
    rw [ih, e, Nat.add_assoc]
theorem cnt8 : ∀ d, d < 256 → cnt d.testBit 8 = p3 15 (pp 85 51 d) := by decide +kernel

/-- Masks of n bytes. -/
def mk (a : Nat) : Nat → Nat
  | 0 => 0
  | n + 1 => a + 256 * mk a n
/-- The bytes' counts, one byte each. -/
def bytesC : Nat → Nat → Nat
  | 0, _ => 0
  | n + 1, x => cnt (x % 256).testBit 8 + 256 * bytesC n (x / 256)
theorem pp_mod (m1 m2 q : Nat) (n : Nat) (h1 : m1 = mk 85 n) (h2 : m2 = mk 51 n) : pp m1 m2 q % 16 ≤ 4 := by
  cases n with
  | zero => subst h1; subst h2; simp [mk, pp, p1, p2]
  | succ n =>
    subst h1; subst h2
    rw [mk, mk, show q = q % 256 + 256 * (q / 256) by omega, pp_split _ _ _ _ (by omega)]
    have := (l2 (q % 256) (by omega)).2
    unfold pp at *
    omega
theorem pc_bytes : ∀ n x, p3 (mk 15 n) (pp (mk 85 n) (mk 51 n) x) = bytesC n x
  | 0, x => by simp [mk, p3, bytesC]
  | n + 1, x => by
    have h : pp 85 51 (x % 256) < 80 ∧ pp 85 51 (x % 256) % 16 ≤ 4 := l2 (x % 256) (by omega)
    rw [mk, mk, mk, bytesC, show pp (85 + 256 * mk 85 n) (51 + 256 * mk 51 n) x = pp (85 + 256 * mk 85 n) (51 + 256 * mk 51 n) (x % 256 + 256 * (x / 256)) by rw [show x % 256 + 256 * (x / 256) = x by omega], pp_split _ _ _ _ (by omega), p3_split _ _ _ h.1 h.2 (pp_mod _ _ _ n rfl rfl), pc_bytes n (x / 256), cnt8 _ (by omega)]
theorem cnt_bytes (n : Nat) : ∀ x, cnt x.testBit (8 + n) = cnt (x % 256).testBit 8 + cnt (x / 256).testBit n := fun x => by
  have := cnt_split (x % 256) (x / 256) n (by omega)
  rwa [show x % 256 + 256 * (x / 256) = x by omega] at this
theorem cnt_top (x : Nat) : cnt (x % 256).testBit 8 ≤ 8 := cnt_le _ 8

theorem step8 {c B D : Nat} (hc : c < 256) (h : B = c + 256 * D) : B / 256 = D := by omega
theorem step16 {c d B D E : Nat} (hc : c < 256) (hd : d < 256) (h : B = c + 256 * D) (h' : D = d + 256 * E) : B / 65536 = E := by omega
theorem step32 {B D E F G c d e f : Nat} (hc : c < 256) (hd : d < 256) (he : e < 256) (hf : f < 256) (h : B = c + 256 * D) (h1 : D = d + 256 * E) (h2 : E = e + 256 * F) (h3 : F = f + 256 * G) : B / 4294967296 = G := by
  have a1 : D / 256 = E := step8 hd h1
  have a2 : E / 256 = F := step8 he h2
  have a3 : F / 256 = G := step8 hf h3
  have a0 : B / 256 = D := step8 hc h
  rw [show (4294967296 : Nat) = 256 * 256 * 256 * 256 from rfl, ← Nat.div_div_eq_div_mul, ← Nat.div_div_eq_div_mul, ← Nat.div_div_eq_div_mul, a0, a1, a2, a3]
theorem fold8 (c0 c1 c2 c3 c4 c5 c6 c7 B B1 B2 B3 B4 B5 B6 B7 : Nat) (h0 : c0 ≤ 8) (h1 : c1 ≤ 8) (h2 : c2 ≤ 8) (h3 : c3 ≤ 8) (h4 : c4 ≤ 8) (h5 : c5 ≤ 8) (h6 : c6 ≤ 8) (h7 : c7 ≤ 8)
    (g0 : B = c0 + 256 * B1) (g1 : B1 = c1 + 256 * B2) (g2 : B2 = c2 + 256 * B3) (g3 : B3 = c3 + 256 * B4) (g4 : B4 = c4 + 256 * B5) (g5 : B5 = c5 + 256 * B6) (g6 : B6 = c6 + 256 * B7) (g7 : B7 = c7) :
    B < 1000000000000000000 ∧ B + B / 256 < 1000000000000000000 ∧ (B + B / 256) + (B + B / 256) / 65536 < 1000000000000000000 ∧ ((B + B / 256) + (B + B / 256) / 65536) + ((B + B / 256) + (B + B / 256) / 65536) / 4294967296 < 2000000000000000000 ∧ (((B + B / 256) + (B + B / 256) / 65536) + ((B + B / 256) + (B + B / 256) / 65536) / 4294967296) % 128 = c0 + (c1 + (c2 + (c3 + (c4 + (c5 + (c6 + c7)))))) := by
  have hB7 : B7 ≤ 8 := by omega
  have hB6 : B6 ≤ 2056 := by omega
  have hB5 : B5 ≤ 526344 := by omega
  have hB4 : B4 ≤ 134744072 := by omega
  have hB3 : B3 ≤ 34494482440 := by omega
  have hB2 : B2 ≤ 8830587504648 := by omega
  have hB1 : B1 ≤ 2260630401189896 := by omega
  have hB : B ≤ 578721382704613384 := by omega
  have e1 : B / 256 = B1 := step8 (by omega) g0
  obtain ⟨A0, a0⟩ : ∃ A, A = B + B1 := ⟨_, rfl⟩
  obtain ⟨A1, a1⟩ : ∃ A, A = B1 + B2 := ⟨_, rfl⟩
  obtain ⟨A2, a2⟩ : ∃ A, A = B2 + B3 := ⟨_, rfl⟩
  obtain ⟨A3, a3⟩ : ∃ A, A = B3 + B4 := ⟨_, rfl⟩
  obtain ⟨A4, a4⟩ : ∃ A, A = B4 + B5 := ⟨_, rfl⟩
  obtain ⟨A5, a5⟩ : ∃ A, A = B5 + B6 := ⟨_, rfl⟩
  obtain ⟨A6, a6⟩ : ∃ A, A = B6 + B7 := ⟨_, rfl⟩
  have k0 : A0 = (c0 + c1) + 256 * A1 := by omega
  have k1 : A1 = (c1 + c2) + 256 * A2 := by omega
  have k2 : A2 = (c2 + c3) + 256 * A3 := by omega
  have k3 : A3 = (c3 + c4) + 256 * A4 := by omega
  have k4 : A4 = (c4 + c5) + 256 * A5 := by omega
  have k5 : A5 = (c5 + c6) + 256 * A6 := by omega
  have k6 : A6 = (c6 + c7) + 256 * B7 := by omega
  have e2 : A0 / 65536 = A2 := step16 (by omega) (by omega) k0 k1
  have n0 : A0 + A2 = (c0 + c1 + c2 + c3) + 256 * (A1 + A3) := by omega
  have n1 : A1 + A3 = (c1 + c2 + c3 + c4) + 256 * (A2 + A4) := by omega
  have n2 : A2 + A4 = (c2 + c3 + c4 + c5) + 256 * (A3 + A5) := by omega
  have n3 : A3 + A5 = (c3 + c4 + c5 + c6) + 256 * (A4 + A6) := by omega
  have n4 : A4 + A6 = (c4 + c5 + c6 + c7) + 256 * (A5 + B7) := by omega
  have e3 : (A0 + A2) / 4294967296 = A4 + A6 := step32 (by omega) (by omega) (by omega) (by omega) n0 n1 n2 n3
  rw [e1, ← a0, e2, e3]
  refine ⟨by omega, by omega, by omega, by omega, ?_⟩
  rw [n0, n4]
  generalize A1 + A3 = X
  generalize A5 + B7 = Y
  clear n0 n1 n2 n3 n4 k0 k1 k2 k3 k4 k5 k6 a0 a1 a2 a3 a4 a5 a6 e1 e2 e3 hB hB1 hB2 hB3 hB4 hB5 hB6 hB7 g0 g1 g2 g3 g4 g5 g6 g7
  omega
/-- The last steps add the eight bytes. -/
theorem pc_fold (x B : Nat) (hB : bytesC 8 x = B) :
    B < 1000000000000000000 ∧ B + B / 256 < 1000000000000000000 ∧ (B + B / 256) + (B + B / 256) / 65536 < 1000000000000000000 ∧ ((B + B / 256) + (B + B / 256) / 65536) + ((B + B / 256) + (B + B / 256) / 65536) / 4294967296 < 2000000000000000000 ∧ (((B + B / 256) + (B + B / 256) / 65536) + ((B + B / 256) + (B + B / 256) / 65536) / 4294967296) % 128 = cnt x.testBit 64 := by
  obtain ⟨x1, h1⟩ : ∃ y, y = x / 256 := ⟨_, rfl⟩
  obtain ⟨x2, h2⟩ : ∃ y, y = x1 / 256 := ⟨_, rfl⟩
  obtain ⟨x3, h3⟩ : ∃ y, y = x2 / 256 := ⟨_, rfl⟩
  obtain ⟨x4, h4⟩ : ∃ y, y = x3 / 256 := ⟨_, rfl⟩
  obtain ⟨x5, h5⟩ : ∃ y, y = x4 / 256 := ⟨_, rfl⟩
  obtain ⟨x6, h6⟩ : ∃ y, y = x5 / 256 := ⟨_, rfl⟩
  obtain ⟨x7, h7⟩ : ∃ y, y = x6 / 256 := ⟨_, rfl⟩
  have e0 : cnt x.testBit 64 = cnt (x % 256).testBit 8 + cnt x1.testBit 56 := h1 ▸ cnt_bytes 56 x
  have e1 : cnt x1.testBit 56 = cnt (x1 % 256).testBit 8 + cnt x2.testBit 48 := h2 ▸ cnt_bytes 48 x1
  have e2 : cnt x2.testBit 48 = cnt (x2 % 256).testBit 8 + cnt x3.testBit 40 := h3 ▸ cnt_bytes 40 x2
  have e3 : cnt x3.testBit 40 = cnt (x3 % 256).testBit 8 + cnt x4.testBit 32 := h4 ▸ cnt_bytes 32 x3
  have e4 : cnt x4.testBit 32 = cnt (x4 % 256).testBit 8 + cnt x5.testBit 24 := h5 ▸ cnt_bytes 24 x4
  have e5 : cnt x5.testBit 24 = cnt (x5 % 256).testBit 8 + cnt x6.testBit 16 := h6 ▸ cnt_bytes 16 x5
  have e6 : cnt x6.testBit 16 = cnt (x6 % 256).testBit 8 + cnt x7.testBit 8 := h7 ▸ cnt_bytes 8 x6
  have e7 : cnt x7.testBit 8 = cnt (x7 % 256).testBit 8 + cnt (x7 / 256).testBit 0 := cnt_bytes 0 x7
  have f0 : bytesC 8 x = cnt (x % 256).testBit 8 + 256 * bytesC 7 x1 := h1 ▸ rfl
  have f1 : bytesC 7 x1 = cnt (x1 % 256).testBit 8 + 256 * bytesC 6 x2 := h2 ▸ rfl
  have f2 : bytesC 6 x2 = cnt (x2 % 256).testBit 8 + 256 * bytesC 5 x3 := h3 ▸ rfl
  have f3 : bytesC 5 x3 = cnt (x3 % 256).testBit 8 + 256 * bytesC 4 x4 := h4 ▸ rfl
  have f4 : bytesC 4 x4 = cnt (x4 % 256).testBit 8 + 256 * bytesC 3 x5 := h5 ▸ rfl
  have f5 : bytesC 3 x5 = cnt (x5 % 256).testBit 8 + 256 * bytesC 2 x6 := h6 ▸ rfl
  have f6 : bytesC 2 x6 = cnt (x6 % 256).testBit 8 + 256 * bytesC 1 x7 := h7 ▸ rfl
  have f7 : bytesC 1 x7 = cnt (x7 % 256).testBit 8 := by rw [bytesC, bytesC, Nat.mul_zero, Nat.add_zero]
  have z : cnt (x7 / 256).testBit 0 = 0 := rfl
  rw [z, Nat.add_zero] at e7
  have h := fold8 _ _ _ _ _ _ _ _ _ _ _ _ _ _ _ _ (cnt_top x) (cnt_top x1) (cnt_top x2) (cnt_top x3) (cnt_top x4) (cnt_top x5) (cnt_top x6) (cnt_top x7) f0 f1 f2 f3 f4 f5 f6 f7
  rw [hB] at h
  rw [e0, e1, e2, e3, e4, e5, e6, e7]
  exact h

end Go.Proofs.Ythmfolekohomiaa
