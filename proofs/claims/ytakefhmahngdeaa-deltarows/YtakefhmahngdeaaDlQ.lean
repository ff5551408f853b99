/-
  Chapter 12, plain: there and back; rows of the table as steps; what is put is found.
-/
import Derived.Test.YtakefhmahngdeaaDlP
namespace Go.Proofs.Ytakefhmahngdeaa
open Go.RowKit

theorem wrap_i64 (x : Int) : I64 (IntKind.i64.wrap x) := by
  rw [IntKind.wrap_i64]
  unfold I64
  omega
theorem rowD_i64 {first : Int} (d : List UInt8) (h : I64 first) : ∀ k, I64 (rowD first d k)
  | 0 => h
  | k + 1 => by
    rw [rowD]
    split
    · exact rowD_i64 d h k
    · exact wrap_i64 _
theorem rowDL_i64 {first : Int} (d : List UInt8) (h : I64 first) : ∀ x ∈ rowDL first d, I64 x := by
  intro x hx
  unfold rowDL rowL at hx
  obtain ⟨k, _, rfl⟩ := List.mem_map.1 hx
  exact rowD_i64 d h k
theorem rowD_up {first : Int} {d : List UInt8} (h : I64 first) (h2 : first ≤ 4611686018427387904) : ∀ k, k ≤ 1048576 → first ≤ rowD first d k ∧ rowD first d k ≤ first + k
  | 0, _ => by simp [rowD]
  | k + 1, hk => by
    obtain ⟨h3, h4⟩ := rowD_up (d := d) h h2 k (by omega)
    unfold I64 at h
    rw [rowD]
    split
    · omega
    · rw [IntWalk.i64_in _ (by omega)]
      omega
theorem rowD_next {first : Int} {d : List UInt8} (h : I64 first) (h2 : first ≤ 4611686018427387904) {k : Nat} (hk : k ≤ 1048576) : rowD first d (k + 1) = if bget d k = 0 then rowD first d k else rowD first d k + 1 := by
  obtain ⟨h3, h4⟩ := rowD_up (d := d) h h2 k (by omega)
  unfold I64 at h
  rw [rowD, IntWalk.i64_in _ (by omega)]
theorem okS_all {row : List Int} : ∀ {n : Nat}, (∀ k, k < n → nth row (k + 1) = nth row k ∨ nth row (k + 1) = nth row k + 1) → okS row n = true
  | 0, _ => rfl
  | n + 1, h => by
    have h1 := okS_all (n := n) fun k hk => h k (by omega)
    rcases h n (by omega) with e | e
    · exact okS_same h1 e
    · exact okS_up h1 e
theorem okS_at {row : List Int} {n k : Nat} (h : okS row n = true) (hk : k < n) : nth row (k + 1) = nth row k ∨ nth row (k + 1) = nth row k + 1 := by
  have := okS_less (k := k + 1) (by omega) h
  rw [okS, Bool.and_eq_true, Bool.or_eq_true, decide_eq_true_eq, decide_eq_true_eq] at this
  exact this.2
/-- Of is back from Row. -/
theorem forth {first : Int} {d : List UInt8} (h : I64 first) (h2 : first ≤ 4611686018427387904) (hd : d.length ≤ 1048576) : stepsL (rowDL first d) = stpS (rowDL first d) d.length ∧ errS (rowDL first d) = 0 ∧ ∀ k, k < d.length → bitS (rowDL first d) k = if bget d k = 0 then 0 else 1 := by
  have ok : okS (rowDL first d) d.length = true := okS_all fun k hk => by
    rw [nth_rowDL (by omega), nth_rowDL (by omega), rowD_next h h2 (by omega)]
    split
    · exact .inl rfl
    · exact .inr rfl
  obtain ⟨_, e1, e2⟩ := isS_yes (rowDL_length first d) ok
  refine ⟨e1, e2, fun k hk => ?_⟩
  unfold bitS
  rw [nth_rowDL (by omega), nth_rowDL (by omega), rowD_next h h2 (by omega)]
  by_cases e : bget d k = 0
  · rw [if_pos e, if_pos e, if_pos rfl]
  · rw [if_neg e, if_neg e, if_neg (by omega)]

/-- Row is back from Of. -/
theorem back {row : List Int} {N : Nat} (hn : row.length = N + 1) (ok : okS row N = true) (h : ∀ x ∈ row, I64 x) : rowDL (nth row 0) (stpS row N) = row := by
  have key : ∀ k, k ≤ N → rowD (nth row 0) (stpS row N) k = nth row k := by
    intro k
    induction k with
    | zero => intro _; rfl
    | succ k ih =>
      intro hk
      rw [rowD, ih (by omega), bget_of (stpS_get row N k (by omega))]
      unfold bitS
      have hx : nth row (k + 1) ∈ row := by
        have hlt : k + 1 < row.length := by omega
        rw [nth_of (List.getElem?_eq_getElem hlt)]
        exact List.getElem_mem hlt
      have hi := h _ hx
      unfold I64 at hi
      rcases okS_at ok (show k < N by omega) with e | e
      · rw [if_pos (show (if nth row (k + 1) = nth row k then (0 : UInt8) else 1) = 0 from if_pos e), e]
      · have e1 : (if nth row (k + 1) = nth row k then (0 : UInt8) else 1) = 1 := if_neg (by omega)
        rw [e1, if_neg (by decide), ← e, IntWalk.i64_in _ (by omega)]
  unfold rowDL
  rw [stpS_length]
  symm
  refine rowL_ext hn fun c hc => ?_
  rw [key c hc, List.getElem?_eq_getElem (by omega), nth_of (List.getElem?_eq_getElem (by omega))]

/-- The sum of the first k steps. -/
def sumS (d : List UInt8) : Nat → Nat
  | 0 => 0
  | k + 1 => sumS d k + (bget d k).toNat
theorem sum_steps {row : List Int} {N : Nat} (ok : okS row N = true) : ∀ k, k ≤ N → nth row 0 + (sumS (stpS row N) k : Nat) = nth row k
  | 0, _ => by simp [sumS]
  | k + 1, hk => by
    have ih := sum_steps ok k (by omega)
    rw [sumS, bget_of (stpS_get row N k (by omega))]
    unfold bitS
    rcases okS_at ok (show k < N by omega) with e | e
    · rw [if_pos e]
      simp only [UInt8.toNat_zero, Nat.add_zero]
      omega
    · rw [if_neg (by omega)]
      simp only [UInt8.toNat_one]
      omega
theorem sumS_le {row : List Int} {N : Nat} : ∀ k, k ≤ N → sumS (stpS row N) k ≤ k
  | 0, _ => by simp [sumS]
  | k + 1, hk => by
    have ih := sumS_le (row := row) (N := N) k (by omega)
    rw [sumS, bget_of (stpS_get row N k (by omega))]
    unfold bitS
    split
    · simp; omega
    · simp only [UInt8.toNat_one]; omega

/-- A row of the table goes up by steps. -/
theorem okS_front (a b : List Int) : okS (frontL a b) b.length = true := okS_all fun k hk => by
  rw [nth_front (by omega), nth_front (by omega)]
  have e : b.take (k + 1) = b.take k ++ [b[k]] := List.take_succ_eq_append_getElem hk
  obtain ⟨h1, h2, _⟩ := lcs_grow_back (b.take k) a b[k]
  rw [lcs_comm a, lcs_comm a, e]
  omega
theorem front_i64 {a b : List Int} (h : b.length ≤ 1048576) : ∀ x ∈ frontL a b, I64 x := by
  intro x hx
  unfold frontL rowL at hx
  obtain ⟨k, _, rfl⟩ := List.mem_map.1 hx
  have := lcs_le_right (a.take a.length) (b.take k)
  unfold px I64
  rw [List.length_take] at this
  omega
theorem front_zero (a b : List Int) : nth (frontL a b) 0 = 0 := by
  rw [nth_front (Nat.zero_le _), List.take_zero, lcs_nil_right]
  rfl
theorem front_steps {a b : List Int} {m : Nat} (hm : b.length = m) (h : m ≤ 1048576) : stepsL (frontL a b) = stpS (frontL a b) m ∧ errS (frontL a b) = 0 ∧ rowDL 0 (stpS (frontL a b) m) = frontL a b ∧ ((sumS (stpS (frontL a b) m) m : Nat) : Int) = nth (frontL a b) m := by
  subst hm
  have ok := okS_front a b
  obtain ⟨_, e1, e2⟩ := isS_yes (frontL_length a b) ok
  have e3 := back (frontL_length a b) ok (front_i64 h)
  have e4 := sum_steps ok b.length (Nat.le_refl _)
  rw [front_zero] at e3 e4
  exact ⟨e1, e2, e3, by omega⟩

/-- What was put is there, and only there. -/
theorem putN_get {d : List UInt8} {s : Nat} {key : Int} : ∀ {k : Nat}, s + k ≤ d.length → ∀ j, j < k → bget (putN d s key k) (s + j) = bitB key j
  | 0, _, j, hj => by omega
  | k + 1, h, j, hj => by
    rw [putN]
    by_cases e : j = k
    · subst e
      exact bget_of (List.getElem?_set_self (by rw [putN_length]; omega))
    · unfold bget
      rw [List.getElem?_set_ne (by omega)]
      exact putN_get (k := k) (by omega) j (by omega)
theorem putN_front {d : List UInt8} {s : Nat} {key : Int} : ∀ k, (putN d s key k).take s = d.take s
  | 0 => rfl
  | k + 1 => by rw [putN, List.take_set_of_le (by omega), putN_front k]
theorem putN_back {d : List UInt8} {s : Nat} {key : Int} : ∀ k m, k ≤ m → (putN d s key k).drop (s + m) = d.drop (s + m)
  | 0, _, _ => rfl
  | k + 1, m, h => by rw [putN, List.drop_set_of_lt (by omega), putN_back k m (by omega)]
theorem keyN_put {d : List UInt8} {s m : Nat} {key : Nat} (h : s + m ≤ d.length) : ∀ k, k ≤ m → keyN (putN d s key m) s k = key % 2 ^ k
  | 0, _ => by simp [keyN, Nat.mod_one]
  | k + 1, hk => by
    rw [keyN, putN_get h k (by omega), keyN_put h k (by omega), Nat.mod_pow_succ]
    have e : ((bitB (key : Int) k).toNat : Int) = ((key / 2 ^ k % 2 : Nat) : Int) := by rw [bitB_nat]; simp
    have e' : (bitB (key : Int) k).toNat = key / 2 ^ k % 2 := by omega
    have hz : bitB (key : Int) k = 0 ↔ key / 2 ^ k % 2 = 0 := by
      rw [← e', ← UInt8.toNat_inj]; rfl
    by_cases g : key / 2 ^ k % 2 = 0
    · rw [if_pos (hz.2 g), g, Nat.mul_zero, Nat.add_zero]
    · rw [if_neg (fun x => g (hz.1 x)), show key / 2 ^ k % 2 = 1 by omega, Nat.mul_one]

theorem put_facts {d : List UInt8} {K S q : Nat} (h1 : 1 ≤ S) (h3 : S ≤ 3) (h : K + S ≤ d.length) : (putL d K S q).take K = d.take K ∧ (putL d K S q).drop (K + S) = d.drop (K + S) ∧ keyL (putL d K S q) K S = q % 2 ^ S := by
  have e : prt d.length K S = S := by
    rw [prt_is ⟨by omega, by omega, by omega⟩, Int.toNat_natCast, Int.toNat_natCast]
    omega
  have e2 : putL d K S q = putN d K q S := by unfold putL; rw [e, Int.toNat_natCast]
  rw [e2]
  refine ⟨putN_front S, putN_back S S (Nat.le_refl _), ?_⟩
  unfold keyL
  rw [putN_length, e, Int.toNat_natCast]
  exact keyN_put h S (Nat.le_refl _)

end Go.Proofs.Ytakefhmahngdeaa
