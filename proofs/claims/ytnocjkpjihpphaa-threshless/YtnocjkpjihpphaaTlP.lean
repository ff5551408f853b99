/-
  Chapter 13, plain: squares, their sides as numbers, what is said of them.
-/
import Derived.Test.YtnocjkpjihpphaaKit
namespace Go.Proofs.Ytnocjkpjihpphaa

/-- The square's table: E: what is alike; T, L: the steps of its top and of its left side. -/
def sqF (E : Nat → Nat → Bool) (T L : Nat → Nat) : Nat → Nat → Nat
  | 0, 0 => 0
  | 0, c + 1 => sqF E T L 0 c + T c
  | r + 1, 0 => sqF E T L r 0 + L r
  | r + 1, c + 1 => if E r c = true then sqF E T L r c + 1 else max (sqF E T L r (c + 1)) (sqF E T L (r + 1) c)
termination_by r c => (r, c)

section
variable {E : Nat → Nat → Bool} {T L : Nat → Nat}
theorem sq_00 : sqF E T L 0 0 = 0 := by rw [sqF]
theorem sq_0c (c : Nat) : sqF E T L 0 (c + 1) = sqF E T L 0 c + T c := by rw [sqF]
theorem sq_r0 (r : Nat) : sqF E T L (r + 1) 0 = sqF E T L r 0 + L r := by rw [sqF]
theorem sq_rc (r c : Nat) : sqF E T L (r + 1) (c + 1) = if E r c = true then sqF E T L r c + 1 else max (sqF E T L r (c + 1)) (sqF E T L (r + 1) c) := by rw [sqF]

theorem sq_cell {r c : Nat} (h : sqF E T L r c ≤ sqF E T L r (c + 1) ∧ sqF E T L r (c + 1) ≤ sqF E T L r c + 1) (v : sqF E T L r c ≤ sqF E T L (r + 1) c ∧ sqF E T L (r + 1) c ≤ sqF E T L r c + 1) :
    (sqF E T L (r + 1) c ≤ sqF E T L (r + 1) (c + 1) ∧ sqF E T L (r + 1) (c + 1) ≤ sqF E T L (r + 1) c + 1) ∧ sqF E T L r (c + 1) ≤ sqF E T L (r + 1) (c + 1) ∧ sqF E T L (r + 1) (c + 1) ≤ sqF E T L r (c + 1) + 1 := by
  rw [sq_rc]
  split <;> omega
theorem sq_row (hL : ∀ r, L r ≤ 1) {r : Nat} (h : ∀ c, sqF E T L r c ≤ sqF E T L r (c + 1) ∧ sqF E T L r (c + 1) ≤ sqF E T L r c + 1) : ∀ c, (sqF E T L r c ≤ sqF E T L (r + 1) c ∧ sqF E T L (r + 1) c ≤ sqF E T L r c + 1)
  | 0 => by rw [sq_r0]; have := hL r; omega
  | c + 1 => (sq_cell (h c) (sq_row hL h c)).2
/-- Steps along rows are 0 or 1. -/
theorem sq_h (hT : ∀ c, T c ≤ 1) (hL : ∀ r, L r ≤ 1) : ∀ r c, sqF E T L r c ≤ sqF E T L r (c + 1) ∧ sqF E T L r (c + 1) ≤ sqF E T L r c + 1
  | 0, c => by rw [sq_0c]; have := hT c; omega
  | r + 1, c => (sq_cell (sq_h hT hL r c) (sq_row hL (sq_h hT hL r) c)).1
/-- Steps along columns are 0 or 1. -/
theorem sq_v (hT : ∀ c, T c ≤ 1) (hL : ∀ r, L r ≤ 1) (r c : Nat) : sqF E T L r c ≤ sqF E T L (r + 1) c ∧ sqF E T L (r + 1) c ≤ sqF E T L r c + 1 := sq_row hL (sq_h hT hL r) c

/-- Turned over. -/
theorem sq_turn {E' : Nat → Nat → Bool} {n m : Nat} (h : ∀ r c, r < n → c < m → E' c r = E r c) : ∀ r c, r ≤ n → c ≤ m → sqF E' L T c r = sqF E T L r c
  | 0, 0, _, _ => by rw [sq_00, sq_00]
  | 0, c + 1, h1, h2 => by rw [sq_r0, sq_0c, sq_turn h 0 c h1 (by omega)]
  | r + 1, 0, h1, h2 => by rw [sq_0c, sq_r0, sq_turn h r 0 (by omega) h2]
  | r + 1, c + 1, h1, h2 => by
    rw [sq_rc, sq_rc, h r c (by omega) (by omega), sq_turn h r c (by omega) (by omega), sq_turn h r (c + 1) (by omega) h2, sq_turn h (r + 1) c h1 (by omega), Nat.max_comm]
termination_by r c => (r, c)
/-- With more that is alike it goes no less far. -/
theorem sq_more {E' : Nat → Nat → Bool} (hT : ∀ c, T c ≤ 1) (hL : ∀ r, L r ≤ 1) (h : ∀ r c, E r c = true → E' r c = true) : ∀ r c, sqF E T L r c ≤ sqF E' T L r c
  | 0, 0 => by rw [sq_00, sq_00]; exact Nat.le_refl _
  | 0, c + 1 => by rw [sq_0c, sq_0c]; have := sq_more hT hL h 0 c; omega
  | r + 1, 0 => by rw [sq_r0, sq_r0]; have := sq_more hT hL h r 0; omega
  | r + 1, c + 1 => by
    have h1 := sq_more hT hL h r c
    have h2 := sq_more hT hL h r (c + 1)
    have h3 := sq_more hT hL h (r + 1) c
    have b1 := sq_h (E := E) hT hL r c
    have b2 := sq_v (E := E) hT hL r c
    rw [sq_rc, sq_rc]
    by_cases e : E r c = true
    · rw [if_pos e, if_pos (h r c e)]; omega
    · rw [if_neg e]
      split <;> omega
termination_by r c => (r, c)
/-- Nothing alike, nothing at the left side: down it is as at the top. -/
theorem sq_through (hT : ∀ c, T c ≤ 1) {n m : Nat} (hE : ∀ r c, r < n → c < m → E r c = false) : ∀ r c, r ≤ n → c ≤ m → (∀ r, L r = 0) → sqF E T L r c = sqF E T L 0 c
  | 0, c, _, _, _ => rfl
  | r + 1, 0, h1, h2, hL => by rw [sq_r0, hL r, sq_through hT hE r 0 (by omega) h2 hL]; rfl
  | r + 1, c + 1, h1, h2, hL => by
    rw [sq_rc, if_neg (by rw [hE r c (by omega) (by omega)]; decide), sq_through hT hE r (c + 1) (by omega) h2 hL, sq_through hT hE (r + 1) c h1 (by omega) hL, sq_0c]
    omega
termination_by r c => (r, c)
theorem sq_congr {E' : Nat → Nat → Bool} {T' L' : Nat → Nat} {n m : Nat} (hE : ∀ r c, r < n → c < m → E r c = E' r c) (hT : ∀ c, c < m → T c = T' c) (hL : ∀ r, r < n → L r = L' r) : ∀ r c, r ≤ n → c ≤ m → sqF E T L r c = sqF E' T' L' r c
  | 0, 0, _, _ => by rw [sq_00, sq_00]
  | 0, c + 1, h1, h2 => by rw [sq_0c, sq_0c, sq_congr hE hT hL 0 c h1 (by omega), hT c (by omega)]
  | r + 1, 0, h1, h2 => by rw [sq_r0, sq_r0, sq_congr hE hT hL r 0 (by omega) h2, hL r (by omega)]
  | r + 1, c + 1, h1, h2 => by
    rw [sq_rc, sq_rc, hE r c (by omega) (by omega), sq_congr hE hT hL r c (by omega) (by omega), sq_congr hE hT hL r (c + 1) (by omega) h2, sq_congr hE hT hL (r + 1) c h1 (by omega)]
termination_by r c => (r, c)
end

/-- Bit k. -/
def bitN (x k : Nat) : Nat := x / 2 ^ k % 2
theorem bitN_le (x k : Nat) : bitN x k ≤ 1 := by unfold bitN; omega
theorem bitN_zero (k : Nat) : bitN 0 k = 0 := by unfold bitN; simp
theorem bitN_out {x t k : Nat} (h : x < 2 ^ t) (hk : t ≤ k) : bitN x k = 0 := by
  unfold bitN
  rw [Nat.div_eq_of_lt (Nat.lt_of_lt_of_le h (Nat.pow_le_pow_right (by decide) hk))]
/-- The number with told bits. -/
def num (f : Nat → Nat) : Nat → Nat
  | 0 => 0
  | k + 1 => num f k + f k * 2 ^ k
theorem num_lt {f : Nat → Nat} (h : ∀ k, f k ≤ 1) : ∀ t, num f t < 2 ^ t
  | 0 => by simp [num]
  | t + 1 => by
    have h1 := num_lt h t
    have h2 := Nat.mul_le_mul_right (2 ^ t) (h t)
    rw [num, Nat.pow_succ]
    omega
theorem num_bit {f : Nat → Nat} (h : ∀ k, f k ≤ 1) : ∀ t k, k < t → bitN (num f t) k = f k
  | 0, k, hk => by omega
  | t + 1, k, hk => by
    rw [num]
    by_cases e : k = t
    · subst e
      unfold bitN
      rw [Nat.add_mul_div_right _ _ (Nat.two_pow_pos k), Nat.div_eq_of_lt (num_lt h k)]
      have := h k
      omega
    · rw [← num_bit h t k (by omega)]
      unfold bitN
      have e1 : f t * 2 ^ t = f t * 2 ^ (t - k - 1) * 2 * 2 ^ k := by
        rw [Nat.mul_assoc, Nat.mul_assoc, ← Nat.pow_succ', ← Nat.pow_add, show t - k - 1 + k.succ = t by omega]
      rw [e1, Nat.add_mul_div_right _ _ (Nat.two_pow_pos k)]
      omega
theorem num_congr {f g : Nat → Nat} {t : Nat} (h : ∀ k, k < t → f k = g k) : num f t = num g t := by
  induction t with
  | zero => rfl
  | succ t ih => rw [num, num, ih fun k hk => h k (by omega), h t (by omega)]
theorem num_bits {x : Nat} : ∀ t, num (bitN x) t = x % 2 ^ t
  | 0 => by simp [num, Nat.mod_one]
  | t + 1 => by rw [num, num_bits t, Nat.mod_pow_succ, Nat.mul_comm]; rfl
theorem num_zero (t : Nat) : num (fun _ => 0) t = 0 := by
  induction t with
  | zero => rfl
  | succ t ih => rw [num, ih]; simp

/-- How many of the first k bits are 1. -/
def sumN (f : Nat → Nat) : Nat → Nat
  | 0 => 0
  | k + 1 => sumN f k + f k
theorem sumN_congr {f g : Nat → Nat} {t : Nat} (h : ∀ k, k < t → f k = g k) : sumN f t = sumN g t := by
  induction t with
  | zero => rfl
  | succ t ih => rw [sumN, sumN, ih fun k hk => h k (by omega), h t (by omega)]
theorem sumN_more {f : Nat → Nat} {t : Nat} (h : ∀ k, t ≤ k → f k = 0) : ∀ n, t ≤ n → sumN f n = sumN f t
  | 0, hn => by obtain rfl : t = 0 := by omega
                rfl
  | n + 1, hn => by
    by_cases e : t = n + 1
    · rw [e]
    · rw [sumN, sumN_more h n (by omega), h n (by omega)]
      rfl
def ones (x : Nat) : Nat := sumN (bitN x) 62
theorem ones_lt {x t : Nat} (h : x < 2 ^ t) (ht : t ≤ 62) : ones x = sumN (bitN x) t := sumN_more (fun _ hk => bitN_out h hk) 62 ht
theorem ones_num {f : Nat → Nat} {t : Nat} (h : ∀ k, f k ≤ 1) (ht : t ≤ 62) : ones (num f t) = sumN f t := by
  rw [ones_lt (num_lt h t) ht]
  exact sumN_congr fun k hk => num_bit h t k hk
theorem sumN_tele {f : Nat → Nat} (h : ∀ k, f k ≤ f (k + 1)) : ∀ t, f 0 + sumN (fun k => f (k + 1) - f k) t = f t
  | 0 => rfl
  | t + 1 => by have := sumN_tele h t; have := h t; rw [sumN]; omega

/-- A square by its numbers. -/
def sqN (t eq top left : Nat) : Nat → Nat → Nat := sqF (fun r c => decide (bitN eq (r * t + c) = 1)) (bitN top) (bitN left)
def botF (t eq top left : Nat) (c : Nat) : Nat := sqN t eq top left t (c + 1) - sqN t eq top left t c
def rgtF (t eq top left : Nat) (r : Nat) : Nat := sqN t eq top left (r + 1) t - sqN t eq top left r t
def botN (t eq top left : Nat) : Nat := num (botF t eq top left) t
def rgtN (t eq top left : Nat) : Nat := num (rgtF t eq top left) t
section
variable (t eq top left : Nat)
theorem sqN_h (r c : Nat) : sqN t eq top left r c ≤ sqN t eq top left r (c + 1) ∧ sqN t eq top left r (c + 1) ≤ sqN t eq top left r c + 1 := sq_h (fun _ => bitN_le _ _) (fun _ => bitN_le _ _) r c
theorem sqN_v (r c : Nat) : sqN t eq top left r c ≤ sqN t eq top left (r + 1) c ∧ sqN t eq top left (r + 1) c ≤ sqN t eq top left r c + 1 := sq_v (fun _ => bitN_le _ _) (fun _ => bitN_le _ _) r c
theorem botF_le (c : Nat) : botF t eq top left c ≤ 1 := by have := sqN_h t eq top left t c; unfold botF; omega
theorem rgtF_le (r : Nat) : rgtF t eq top left r ≤ 1 := by have := sqN_v t eq top left r t; unfold rgtF; omega
theorem botN_lt : botN t eq top left < 2 ^ t := num_lt (botF_le t eq top left) t
theorem rgtN_lt : rgtN t eq top left < 2 ^ t := num_lt (rgtF_le t eq top left) t
theorem sqN_top (c : Nat) : sqN t eq top left 0 c = sumN (bitN top) c := by
  induction c with
  | zero => exact sq_00
  | succ c ih => rw [sumN, ← ih]; exact sq_0c c
theorem sqN_left (r : Nat) : sqN t eq top left r 0 = sumN (bitN left) r := by
  induction r with
  | zero => exact sq_00
  | succ r ih => rw [sumN, ← ih]; exact sq_r0 r
theorem bot_sum : sumN (bitN left) t + sumN (botF t eq top left) t = sqN t eq top left t t := by
  rw [← sqN_left t eq top left]
  exact sumN_tele (f := fun c => sqN t eq top left t c) (fun c => (sqN_h t eq top left t c).1) t
theorem rgt_sum : sumN (bitN top) t + sumN (rgtF t eq top left) t = sqN t eq top left t t := by
  rw [← sqN_top t eq top left]
  exact sumN_tele (f := fun r => sqN t eq top left r t) (fun r => (sqN_v t eq top left r t).1) t
end
/-- P13.2. -/
theorem look_sums {t eq top left : Nat} (ht : t ≤ 62) (h1 : top < 2 ^ t) (h2 : left < 2 ^ t) : ones top + ones (rgtN t eq top left) = ones left + ones (botN t eq top left) := by
  unfold rgtN botN
  rw [ones_lt h1 ht, ones_lt h2 ht, ones_num (rgtF_le t eq top left) ht, ones_num (botF_le t eq top left) ht, rgt_sum, bot_sum]
theorem look_turn {t eq over top left : Nat} (h : ∀ r c, r < t → c < t → bitN over (c * t + r) = bitN eq (r * t + c)) : botN t eq top left = rgtN t over left top ∧ rgtN t eq top left = botN t over left top := by
  have key : ∀ r c, r ≤ t → c ≤ t → sqN t over left top c r = sqN t eq top left r c := sq_turn fun r c hr hc => by rw [h r c hr hc]
  constructor
  · refine num_congr fun k hk => ?_
    unfold botF rgtF
    rw [key t (k + 1) (Nat.le_refl _) (by omega), key t k (Nat.le_refl _) (by omega)]
  · refine num_congr fun k hk => ?_
    unfold botF rgtF
    rw [key (k + 1) t (by omega) (Nat.le_refl _), key k t (by omega) (Nat.le_refl _)]
theorem look_more {t eq more top left : Nat} (ht : t ≤ 62) (h : ∀ k, bitN eq k = 1 → bitN more k = 1) : ones (rgtN t eq top left) ≤ ones (rgtN t more top left) := by
  unfold rgtN
  rw [ones_num (rgtF_le t eq top left) ht, ones_num (rgtF_le t more top left) ht]
  have h1 := rgt_sum t eq top left
  have h2 := rgt_sum t more top left
  have h3 : sqN t eq top left t t ≤ sqN t more top left t t := sq_more (fun _ => bitN_le _ _) (fun _ => bitN_le _ _) (fun r c e => by simpa using h _ (by simpa using e)) t t
  omega
theorem look_none (t top : Nat) : rgtN t 0 top 0 = 0 := by
  unfold rgtN
  refine Eq.trans (num_congr (g := fun _ => 0) fun k hk => ?_) (num_zero t)
  have key : ∀ r c, r ≤ t → c ≤ t → sqN t 0 top 0 r c = sqN t 0 top 0 0 c := fun r c h1 h2 => sq_through (fun _ => bitN_le _ _) (fun r c _ _ => by simp [bitN_zero]) r c h1 h2 (fun _ => bitN_zero _)
  unfold rgtF
  rw [key (k + 1) t (by omega) (Nat.le_refl _), key k t (by omega) (Nat.le_refl _)]
  omega
theorem look_left {t left : Nat} (h : left < 2 ^ t) : rgtN t 0 0 left = left ∧ botN t 0 0 left = 0 := by
  have e := look_turn (t := t) (eq := 0) (over := 0) (top := 0) (left := left) (fun r c _ _ => by rw [bitN_zero, bitN_zero])
  have key : ∀ r c, r ≤ t → c ≤ t → sqN t 0 left 0 r c = sqN t 0 left 0 0 c := fun r c h1 h2 => sq_through (fun _ => bitN_le _ _) (fun r c _ _ => by simp [bitN_zero]) r c h1 h2 (fun _ => bitN_zero _)
  refine ⟨?_, by rw [e.1]; exact look_none t left⟩
  rw [e.2]
  unfold botN
  rw [show num (botF t 0 left 0) t = num (bitN left) t from num_congr fun k hk => by
    unfold botF
    rw [key t (k + 1) (Nat.le_refl _) (by omega), key t k (Nat.le_refl _) (by omega), sqN_top, sqN_top, sumN]
    omega, num_bits, Nat.mod_eq_of_lt h]

end Go.Proofs.Ytnocjkpjihpphaa
