/-
  Words and contracts that the proof leans on.
-/
import Derived.Test.YtncbhnmhaoblaaaM25
import Derived.Test.YtncbhnmhaoblaaaM26
import Derived.Test.YtncbhnmhaoblaaaM4
import Derived.Deep.OwnRows
import Derived.Test.YtncbhnmhaoblaaaM11
import Derived.Test.YtncbhnmhaoblaaaM8
namespace Go.Proofs.Ytncbhnmhaoblaaa
open Go.RowKit

/-- v is a row of W words with the bits b, in a block from lo on. -/
def RdW (lo W : Nat) (b : Nat → Bool) (w : World) (v : Value) : Prop :=
  ∃ A c x, v = .slice A W c ∧ W ≤ c ∧ c ≤ maxLen ∧ x.length = W ∧ Wd x ∧ (∀ j, bt x j = b j) ∧ Row w A (uv x) ∧ ∀ a, A = some a → lo ≤ a.block
section
variable {lo W : Nat} {b b' : Nat → Bool} {w w' : World} {v : Value}
theorem RdW.below (h : RdW lo W b w v) (hb : Below w.heap.size w w') : RdW lo W b w' v := by
  obtain ⟨A, c, x, rfl, h1, h2, h3, h4, h5, h6, h7⟩ := h
  exact ⟨A, c, x, rfl, h1, h2, h3, h4, h5, h6.below hb, h7⟩
theorem RdW.lower {lo' : Nat} (h : RdW lo W b w v) (hl : lo' ≤ lo) : RdW lo' W b w v := by
  obtain ⟨A, c, x, rfl, h1, h2, h3, h4, h5, h6, h7⟩ := h
  exact ⟨A, c, x, rfl, h1, h2, h3, h4, h5, h6, fun a e => Nat.le_trans hl (h7 a e)⟩
theorem RdW.congr (h : RdW lo W b w v) (e : ∀ j, b j = b' j) : RdW lo W b' w v := by
  obtain ⟨A, c, x, rfl, h1, h2, h3, h4, h5, h6, h7⟩ := h
  exact ⟨A, c, x, rfl, h1, h2, h3, h4, fun j => (h5 j).trans (e j), h6, h7⟩
theorem RdW.set (h : RdW lo W b w v) {T i : Nat} (hT : T < lo) (u : Value) : RdW lo W b (w.setCell ⟨T, i, none⟩ u) v := by
  obtain ⟨A, c, x, rfl, h1, h2, h3, h4, h5, h6, h7⟩ := h
  refine ⟨A, c, x, rfl, h1, h2, h3, h4, h5, fun hne => ?_, h7⟩
  obtain ⟨g, o, e, hc⟩ := h6 hne
  refine ⟨g, o, e, fun i v hv => ?_⟩
  rw [World.cell?_setCell_other _ _ _ _ (fun e' => ?_)]
  · exact hc i v hv
  · have h8 : lo ≤ g := h7 _ e
    have e2 : g = T := by injection e' with h9; exact h9.symm
    omega
theorem RdW.form (h : RdW lo W b w v) : ∃ A c, v = .slice A W c := by
  obtain ⟨A, c, x, rfl, _⟩ := h
  exact ⟨A, c, rfl⟩
theorem RdW.drew (h : RdW lo W b w v) : RdW lo W b w.drew v := h
theorem madeV_open {e : Ending} (h : MadeV W b' w e w') (hb : ∀ j, (decide (j < 64 * W) && b' j) = b j) (hl : lo ≤ w.heap.size) : ∃ v, e = .returned v ∧ RdW lo W b w' v ∧ Below w.heap.size w w' := by
  obtain ⟨v, x, rfl, hx, wx, bx, own, hbl⟩ := h
  rw [hx] at own
  have hlt := own.lt
  obtain ⟨A, c, rfl, h1, h2, hr, _⟩ := own_slice own
  refine ⟨_, rfl, ⟨A, c, x, rfl, h1, h2, hx, wx, fun j => (bx j).trans (hb j), hr, fun a e => ?_⟩, hbl⟩
  exact Nat.le_trans hl (hlt a.block (by rw [e]; rfl)).1
end

/-- Block T holds n slices, the first k of which are rows of bits. -/
def WPart (lo W n T k : Nat) (b : Nat → Nat → Bool) (w : World) : Prop := ∃ F, w.rowIs T 64 n F ∧ ∀ i, i < k → RdW lo W (b i) w (F i)
section
variable {lo W n T k : Nat} {b : Nat → Nat → Bool} {w w' : World}
theorem WPart.below (h : WPart lo W n T k b w) (hb : Below w.heap.size w w') : WPart lo W n T k b w' := by
  obtain ⟨F, h1, h2⟩ := h
  exact ⟨F, h1.of_block (hb.block _ h1.lt), fun i hi => (h2 i hi).below hb⟩
theorem WPart.drew (h : WPart lo W n T k b w) : WPart lo W n T k b w.drew := h
theorem WPart.start (w : World) (n : Nat) : WPart lo W n w.heap.size 0 b (w.alloc (.cells (madeCells #[.slice none 0 0] n) 64)) := ⟨_, World.rowIs_made w _ _ _, fun i hi => by omega⟩
theorem WPart.cell (h : WPart lo W n T k b w) {i : Nat} (hi : i < n) : ∃ v, w.cell? ⟨T, i, none⟩ = some v := by
  obtain ⟨F, h1, _⟩ := h
  exact ⟨_, h1.cell hi⟩
theorem WPart.frozen (h : WPart lo W n T k b w) (i : Nat) : w.frozen? ⟨T, i, none⟩ = false := by
  obtain ⟨F, h1, _⟩ := h
  exact h1.frozen i
theorem WPart.get (h : WPart lo W n T k b w) (hk : k ≤ n) {i : Nat} (hi : i < k) : ∃ v, w.cell? ⟨T, i, none⟩ = some v ∧ RdW lo W (b i) w v := by
  obtain ⟨F, h1, h2⟩ := h
  exact ⟨_, h1.cell (by omega), h2 i hi⟩
theorem WPart.put (h : WPart lo W n T k b w) {v : Value} (hv : RdW lo W (b k) w v) (hT : T < lo) : WPart lo W n T (k + 1) b (w.setCell ⟨T, k, none⟩ v) := by
  obtain ⟨F, h1, h2⟩ := h
  refine ⟨_, h1.set k v, fun i hi => ?_⟩
  by_cases e : i = k
  · subst e
    rw [if_pos rfl]
    exact hv.set hT v
  · rw [if_neg e]
    exact (h2 i (by omega)).set hT v
end

/-- n rows of bits can be read at A. -/
def RdR (W n : Nat) (b : Nat → Nat → Bool) (w : World) (A : Option Addr) : Prop := ∃ vs : List Value, vs.length = n ∧ Row w A vs ∧ ∀ i v, vs[i]? = some v → RdW 0 W (b i) w v
section
variable {W n : Nat} {b b' : Nat → Nat → Bool} {w w' : World} {A : Option Addr}
theorem RdR.below (h : RdR W n b w A) (hb : Below w.heap.size w w') : RdR W n b w' A := by
  obtain ⟨vs, h1, h2, h3⟩ := h
  exact ⟨vs, h1, h2.below hb, fun i v hv => (h3 i v hv).below hb⟩
theorem RdR.congr (h : RdR W n b w A) (e : ∀ i, i < n → ∀ j, b i j = b' i j) : RdR W n b' w A := by
  obtain ⟨vs, h1, h2, h3⟩ := h
  exact ⟨vs, h1, h2, fun i v hv => (h3 i v hv).congr (e i (by rw [← h1]; exact (List.getElem?_eq_some_iff.1 hv).1))⟩
theorem RdR.take (h : RdR W n b w A) {k : Nat} (hk : k ≤ n) : RdR W k b w A := by
  obtain ⟨vs, h1, h2, h3⟩ := h
  refine ⟨vs.take k, by simp; omega, h2.take k, fun i v hv => h3 i v ?_⟩
  rw [List.getElem?_take] at hv
  split at hv
  · exact hv
  · cases hv
/-- A cell that holds a row, as the walk asks for it. -/
theorem RdR.cell (h : RdR W n b w A) {k : Nat} (hk : k < n) : ∃ g o A' c' x, A = some ⟨g, o, none⟩ ∧ w.cell? ⟨g, o + k, none⟩ = some (.slice A' W c') ∧ W ≤ c' ∧ c' ≤ maxLen ∧ x.length = W ∧ Wd x ∧ (∀ j, bt x j = b k j) ∧ Row w A' (uv x) := by
  obtain ⟨vs, h1, h2, h3⟩ := h
  obtain ⟨g, o, e, hc⟩ := h2.at_ k (by omega)
  obtain ⟨A', c', x, e', a1, a2, a3, a4, a5, a6, _⟩ := h3 k _ (List.getElem?_eq_getElem (by omega))
  exact ⟨g, o, A', c', x, e, by rw [hc, e'], a1, a2, a3, a4, a5, a6⟩
theorem WPart.read {lo T : Nat} (h : WPart lo W n T n b w) : RdR W n b w (some ⟨T, 0, none⟩) := by
  obtain ⟨F, h1, h2⟩ := h
  refine ⟨(List.range n).map F, by simp, fun _ => ⟨T, 0, rfl, fun i u hu => ?_⟩, fun i v hv => ?_⟩
  · rw [List.getElem?_map] at hu
    obtain ⟨k, hk, rfl⟩ := Option.map_eq_some_iff.1 hu
    obtain ⟨hi, e⟩ := List.getElem?_eq_some_iff.1 hk
    simp only [List.length_range] at hi
    rw [List.getElem_range] at e
    subst e
    rw [Nat.zero_add]
    exact h1.cell hi
  · rw [List.getElem?_map] at hv
    obtain ⟨k, hk, rfl⟩ := Option.map_eq_some_iff.1 hv
    obtain ⟨hi, e⟩ := List.getElem?_eq_some_iff.1 hk
    simp only [List.length_range] at hi
    rw [List.getElem_range] at e
    subst e
    exact (h2 i hi).lower (Nat.zero_le _)
end
/-- What a call leaves that returns n rows of bits. -/
def RwMade (W n : Nat) (b : Nat → Nat → Bool) (w : World) (e : Ending) (w' : World) : Prop :=
  ∃ A c, e = .returned (.slice A n c) ∧ n ≤ c ∧ c ≤ maxLen ∧ RdR W n b w' A ∧ Below w.heap.size w w'

/-- Bits that count are those below the width. -/
theorem rowF_congr {N : Nat} {v v' u u' : Nat → Bool} (hv : ∀ j, j < N → v j = v' j) (hu : ∀ j, j < N → u j = u' j) (j : Nat) : rowF N v u j = rowF N v' u' j := by
  have e1 : cutB N v = cutB N v' := funext fun j => by
    unfold cutB
    by_cases h : j < N
    · rw [hv j h]
    · rw [decide_eq_false h]; rfl
  have e2 : cutB N u = cutB N u' := funext fun j => by
    unfold cutB
    by_cases h : j < N
    · rw [hu j h]
    · rw [decide_eq_false h]; rfl
  rw [rowF_eq, rowF_eq, e1, e2]
theorem rowF_words {N W : Nat} (hN : N ≤ 64 * W) (v u : Nat → Bool) (j : Nat) : (decide (j < 64 * W) && rowF N v u j) = rowF N v u j := by
  by_cases h : j < 64 * W
  · rw [decide_eq_true h, Bool.true_and]
  · rw [decide_eq_false h, Bool.false_and, row_past (by omega)]
theorem wid_nat {n : Nat} (h : n ≤ 1048576) : wid (n : Int) = n := by unfold wid; rw [if_neg (by omega), if_neg (by omega)]; omega
/-- A mask's bits, as they stand in the table. -/
theorem mask_alike {a b : List Int} {i : Nat} {x : Int} (hx : a[i]? = some x) (j : Nat) : decide (b[j]? = some x) = alikeAt a b i j := by
  unfold alikeAt
  rw [hx]
  cases b[j]? with
  | none => rfl
  | some y =>
    by_cases h : x = y
    · subst h; simp
    · rw [decide_eq_false (fun e => h (Option.some.inj e).symm)]
      exact (beq_eq_false_iff_ne.2 h).symm

end Go.Proofs.Ytncbhnmhaoblaaa

namespace Go.Proofs.Ytncbhnmhaoblaaa
open Go.RowKit

/-- What both hold, word by word. -/
def bothW (x y : List Nat) : List Nat := (List.range x.length).map fun k => wd x k &&& wd y k
theorem wd_both (x y : List Nat) (k : Nat) : wd (bothW x y) k = wd x k &&& wd y k := by
  unfold bothW
  by_cases hk : k < x.length
  · exact wd_map (fun k => wd x k &&& wd y k) _ _ hk
  · rw [← wd_out (x := x) (by omega), Nat.zero_and, ← wd_out (by simp; omega)]
theorem both_wd {x : List Nat} (y : List Nat) (hx : Wd x) : Wd (bothW x y) := fun u hu => by
  obtain ⟨k, _, rfl⟩ := List.mem_map.1 hu
  exact Nat.lt_of_le_of_lt Nat.and_le_left (wd_lt hx k)
theorem bt_both (x y : List Nat) (j : Nat) : bt (bothW x y) j = (bt x j && bt y j) := by
  rw [bt_wd, wd_both, Nat.testBit_and]
  rfl
theorem sub_and_bit (a b i : Nat) : (a - (a &&& b)).testBit i = (a.testBit i && !b.testBit i) := by
  have hle : a &&& b ≤ a := Nat.and_le_left
  have h := (sub_bits (a := a) (b := a &&& b) (d := a - (a &&& b)) (M := i + 1) (fun j _ => by rw [Nat.sub_add_cancel hle]) i (by omega)).2 (by omega)
  have hb : bor a.testBit (a &&& b).testBit i = false := by
    refine bor_none (v := a.testBit) (z := (a &&& b).testBit) rfl (fun j hj => ?_) (fun j => rfl) i
    rw [Nat.testBit_and, Bool.and_eq_true] at hj
    exact hj.1
  rw [h, hb, Nat.testBit_and]
  cases a.testBit i <;> cases b.testBit i <;> rfl
/-- A word of the next row, the bit beyond the width not yet cleared. -/
def hyW (x y : List Nat) (k : Nat) : Nat := addW x (bothW x y) k ||| (wd x k - (wd x k &&& wd y k))
theorem hyW_lt {x : List Nat} (y : List Nat) (hx : Wd x) (k : Nat) : hyW x y k < 18446744073709551616 :=
  Nat.or_lt_two_pow (n := 64) (Nat.mod_lt _ (by decide)) (Nat.lt_of_le_of_lt (Nat.sub_le _ _) (wd_lt hx k))
/-- Its bits. -/
def hyB (x y : List Nat) (j : Nat) : Bool := sumB x (bothW x y) j || (bt x j && !bt y j)
theorem hyW_bit {x : List Nat} (y : List Nat) (hx : Wd x) (j : Nat) : (hyW x y (j / 64)).testBit (j % 64) = hyB x y j := by
  unfold hyW hyB
  rw [Nat.testBit_or, addW_bit x (bothW x y) hx (both_wd y hx) j, sub_and_bit]
  rfl
section
variable {N : Nat} {x y : List Nat} {v : Nat → Bool}
theorem hy_row (hx : ∀ j, bt x j = cutB N v j) (j : Nat) : (decide (j < N) && hyB x y j) = rowF N v (bt y) j := by
  have e1 : bt x = cutB N v := funext hx
  have e2 : bt (bothW x y) = fun j => cutB N v j && cutB N (bt y) j := funext fun j => by
    rw [bt_both, hx j]
    unfold cutB
    cases decide (j < N) <;> simp
  rw [rowF_eq, bor_same (cutB N v) (cutB N (bt y))]
  unfold hyB sumB
  rw [e1, e2]
  dsimp only
  generalize car (cutB N v) (fun j => cutB N v j && cutB N (bt y) j) j = c
  unfold cutB
  cases decide (j < N) <;> cases v j <;> cases bt y j <;> cases c <;> rfl
theorem hy_past (hx : ∀ j, bt x j = cutB N v j) (j : Nat) (h : N < j) : hyB x y j = false := by
  obtain ⟨i, rfl⟩ : ∃ i, j = i + 1 := ⟨j - 1, by omega⟩
  have e : ∀ k, N ≤ k → bt x k = false := fun k hk => by rw [hx k]; unfold cutB; rw [decide_eq_false (by omega), Bool.false_and]
  unfold hyB sumB
  rw [bt_both, e (i + 1) (by omega), car, bt_both, e i (by omega)]
  simp
/-- Nothing stands at the width's end: the row is done. -/
theorem hy_keep (hx : ∀ j, bt x j = cutB N v j) {W : Nat} (h : N < 64 * W → hyB x y N = false) (j : Nat) (hj : j < 64 * W) : hyB x y j = rowF N v (bt y) j := by
  rw [← hy_row hx j]
  by_cases h1 : j < N
  · rw [decide_eq_true h1, Bool.true_and]
  · rw [decide_eq_false h1, Bool.false_and]
    by_cases h2 : j = N
    · rw [h2]; exact h (by omega)
    · exact hy_past hx j (by omega)
/-- What stands there is cleared. -/
def hyC (N : Nat) (x y : List Nat) (k : Nat) : Nat := if k = N / 64 then hyW x y k &&& (18446744073709551615 - 2 ^ (N % 64)) else hyW x y k
theorem not_bit (s i : Nat) (hs : s < 64) (hi : i < 64) : (18446744073709551615 - 2 ^ s).testBit i = !decide (s = i) := by
  have h := Nat.testBit_two_pow_sub_succ (n := 64) (x := 2 ^ s) (Nat.pow_lt_pow_right (by decide) hs) i
  have e : 2 ^ 64 - (2 ^ s + 1) = 18446744073709551615 - 2 ^ s := by omega
  rw [e] at h
  rw [h, Nat.testBit_two_pow, decide_eq_true hi, Bool.true_and]
theorem hyC_lt (hw : Wd x) (k : Nat) : hyC N x y k < 18446744073709551616 := by
  unfold hyC
  split
  · exact Nat.lt_of_le_of_lt Nat.and_le_left (hyW_lt y hw k)
  · exact hyW_lt y hw k
theorem hyC_bit (hw : Wd x) (hx : ∀ j, bt x j = cutB N v j) (j : Nat) : (hyC N x y (j / 64)).testBit (j % 64) = rowF N v (bt y) j := by
  have hm : N % 64 < 64 := Nat.mod_lt _ (by decide)
  have hm' : j % 64 < 64 := Nat.mod_lt _ (by decide)
  rw [← hy_row hx j]
  unfold hyC
  by_cases e : j / 64 = N / 64
  · rw [if_pos e, Nat.testBit_and, hyW_bit y hw, not_bit _ _ hm hm']
    by_cases h2 : j = N
    · rw [decide_eq_true (by rw [h2]), decide_eq_false (by omega)]
      simp
    · rw [decide_eq_false (show ¬ N % 64 = j % 64 by omega)]
      by_cases h1 : j < N
      · rw [decide_eq_true h1]; simp
      · rw [hy_past hx j (by omega)]; simp
  · rw [if_neg e, hyW_bit y hw]
    by_cases h1 : j < N
    · rw [decide_eq_true h1]; simp
    · rw [hy_past hx j (by omega)]; simp
end
/-- The row while it is reckoned: the words below k are new. -/
def curL (k : Nat) (F : Nat → Nat) (x : List Nat) : List Nat := (List.range x.length).map fun j => if j < k then F j else wd x j
theorem curL_length (k : Nat) (F : Nat → Nat) (x : List Nat) : (curL k F x).length = x.length := by simp [curL]
theorem curL_none (F : Nat → Nat) (x : List Nat) : curL 0 F x = x := by
  apply List.ext_getElem (curL_length _ _ _)
  intro k h1 h2
  simp only [curL, List.getElem_map, List.getElem_range, Nat.not_lt_zero, if_false]
  exact (wd_in h2).symm
theorem curL_all (F : Nat → Nat) (x : List Nat) : curL x.length F x = (List.range x.length).map F := by
  unfold curL
  apply List.map_congr_left
  intro k hk
  rw [if_pos (List.mem_range.1 hk)]
theorem curL_set (k : Nat) (F : Nat → Nat) (x : List Nat) : (uv (curL k F x)).set k (.int .u64 (F k : Nat)) = uv (curL (k + 1) F x) := by
  apply List.ext_getElem?
  intro i
  rw [List.getElem?_set]
  simp only [uv, curL, List.map_map, List.getElem?_map, List.length_map, List.length_range]
  by_cases hi : i < x.length
  · rw [List.getElem?_range hi]
    by_cases e : k = i
    · subst e
      simp [hi]
    · rw [if_neg e]
      simp only [Option.map_some, Function.comp]
      by_cases g : i < k
      · rw [if_pos g, if_pos (by omega)]
      · rw [if_neg g, if_neg (by omega)]
  · rw [List.getElem?_eq_none (by simp; omega)]
    by_cases e : k = i
    · rw [if_pos e, if_neg (by omega)]; rfl
    · rw [if_neg e]; rfl
theorem curL_at {k : Nat} (F : Nat → Nat) {x : List Nat} (hk : k < x.length) : (uv (curL k F x))[k]? = some (.int .u64 (wd x k : Nat)) := by
  simp [uv, curL, hk]
theorem map_wd {F : Nat → Nat} (W : Nat) (h : ∀ k, F k < 18446744073709551616) : Wd ((List.range W).map F) := fun u hu => by
  obtain ⟨k, _, rfl⟩ := List.mem_map.1 hu
  exact h k
theorem map_bt {F : Nat → Nat} {g : Nat → Bool} (W : Nat) (h : ∀ j, j < 64 * W → (F (j / 64)).testBit (j % 64) = g j) (j : Nat) : bt ((List.range W).map F) j = (decide (j < 64 * W) && g j) := by
  by_cases hj : j < 64 * W
  · rw [bt_wd, wd_map F W _ (by omega), h j hj, decide_eq_true hj, Bool.true_and]
  · rw [bt_out (by simp; omega), decide_eq_false hj, Bool.false_and]

end Go.Proofs.Ytncbhnmhaoblaaa

namespace Go.Proofs.Ytncbhnmhaoblaaa
open Go.RowKit

set_option maxRecDepth 100000 in
set_option maxHeartbeats 1600000 in
theorem rsteps_any (n m : Int) (w : World) : Calls Try.prog 17 #[.int .i64 n, .int .i64 m] w fun e w' => e = .returned (.int .i64 (stepsW n m)) ∧ w = w' := by
  by_cases h : 0 ≤ n ∧ n ≤ 1048576 ∧ 0 ≤ m ∧ m ≤ 1048576
  · obtain ⟨N, W, X, rfl, hW, hX, hXl, eX, eS⟩ := stepsW_yes h
    have HW := Lib.hid (words_any m w)
    rw [hW] at HW
    rw [← eS]
    obtain ⟨h1, h2, h3, h4⟩ := h
    have z1 : ¬ (m < 0) := by omega
    have z2 : ¬ (1048576 < m) := by omega
    clear hW hX eS
    go_enter Try.func17, Try.ntmps17
    go_wp2_with fail
    refine HW.out.mono ?_
    rintro e w1 ⟨rfl, rfl⟩
    go_wp2_with fail
    go_ret
    exact ⟨rfl, rfl⟩
  · have HS := Lib.hid (stepsW_no h)
    generalize stepsW n m = X at *
    by_cases h1 : n < 0
    · clear h
      go_enter Try.func17, Try.ntmps17
      go_wp2_with fail
      all_goals (go_ret; exact ⟨ret_int HS.out, rfl⟩)
    · by_cases h2 : m < 0
      · clear h
        go_enter Try.func17, Try.ntmps17
        go_wp2_with fail
        all_goals (go_ret; exact ⟨ret_int HS.out, rfl⟩)
      · by_cases h3 : 1048576 < n
        · clear h
          go_enter Try.func17, Try.ntmps17
          go_wp2_with fail
          all_goals (go_ret; exact ⟨ret_int HS.out, rfl⟩)
        · have h4 : 1048576 < m := by omega
          clear h
          go_enter Try.func17, Try.ntmps17
          go_wp2_with fail
          all_goals (go_ret; exact ⟨ret_int HS.out, rfl⟩)

end Go.Proofs.Ytncbhnmhaoblaaa
