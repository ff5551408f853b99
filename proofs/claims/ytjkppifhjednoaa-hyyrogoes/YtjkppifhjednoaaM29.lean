/-
  Words and contracts that the proof leans on.
-/
import Derived.Test.YtjkppifhjednoaaM24
import Derived.Test.YtjkppifhjednoaaM27
import Derived.Test.YtjkppifhjednoaaM28
import Derived.Test.YtjkppifhjednoaaM17
import Derived.BigRegion
import Derived.Test.YtjkppifhjednoaaM3
import Derived.Test.YtjkppifhjednoaaM11
import Derived.Test.YtjkppifhjednoaaM8
import Derived.Test.YtjkppifhjednoaaM13
namespace Go.Proofs.Ytjkppifhjednoaa
open Go.RowKit

/-- v is a row of W words of the call's own with the bits b. -/
def OwW (B W : Nat) (b : Nat → Bool) (w : World) (v : Value) : Prop := ∃ x, x.length = W ∧ Wd x ∧ (∀ j, bt x j = b j) ∧ w.ownsRow B 24 1 v W (uv x)
theorem OwW.read {B W : Nat} {b : Nat → Bool} {w : World} {v : Value} (h : OwW B W b w v) : RdW 0 W b w v := by
  obtain ⟨x, h1, h2, h3, h4⟩ := h
  obtain ⟨A, c, rfl, g1, g2, g3, _⟩ := own_slice h4
  exact ⟨A, c, x, rfl, g1, g2, h1, h2, h3, g3, fun _ _ => Nat.zero_le _⟩
theorem OwW.below {B W : Nat} {b : Nat → Bool} {w w' : World} {v : Value} (h : OwW B W b w v) (hb : Below w.heap.size w w') : OwW B W b w' v := by
  obtain ⟨x, h1, h2, h3, h4⟩ := h
  exact ⟨x, h1, h2, h3, own_below h4 hb (Nat.le_refl _)⟩
end Go.Proofs.Ytjkppifhjednoaa

namespace Go.Proofs.Ytjkppifhjednoaa
open Go.RowKit

theorem words_is {W : Nat} {b : Nat → Bool} {x : List Nat} (y : List Nat) (hx : x.length = W) (wx : Wd x) (bx : ∀ j, bt x j = b j) (hy : y.length = W) (wy : Wd y) (h : ∀ j, j < 64 * W → b j = bt y j) : x = y :=
  words_eq (by omega) wx wy fun j => by
    by_cases hj : j < 64 * W
    · rw [bx j, h j hj]
    · rw [bt_out (by omega), bt_out (by omega)]
theorem below_same {w w' : World} (h : w = w') : Below w.heap.size w w' := h ▸ Below.refl _ _
theorem wd_all {x : List Nat} (h : (x.all fun u => decide (u < 18446744073709551616)) = true) : Wd x := fun u hu => by
  rw [List.all_eq_true] at h
  simpa using h u hu
theorem sameW_same (A A' : Option Addr) (W c c' : Nat) (x y : List Nat) (w : World) (hx : x.length = W) (hy : y.length = W) (hb : W ≤ 9223372036854775807) (hr : Row w A (uv x)) (hr' : Row w A' (uv y)) (e : x = y) :
    Calls Try.prog 14 #[.slice A W c, .slice A' W c'] w fun e w' => e = .returned (.bool true) ∧ ∃ q, w' = w.drewN q := by
  have h := sameW_any A A' W W c c' x y w hx hy hb hr hr'
  rwa [decide_eq_true e] at h
theorem few_wf (N : Int) (h0 : 0 < N) (h1 : N ≤ 1000) (b : List Int) : ∀ x ∈ few N b, (Lit.int .i64 x).wf = true := by
  intro x hx
  obtain ⟨y, _, rfl⟩ := List.mem_map.1 hx
  have h2 := Int.emod_nonneg y (show N ≠ 0 by omega)
  have h3 := Int.emod_lt_of_pos y h0
  exact WalkArith.wf_i64 (by omega)
set_option maxRecDepth 100000 in
theorem size_rows (w : World) : (sizeOf (Try.prog.elem 25)).run Try.prog w = .ok 1 w := by
  rfl
set_option maxRecDepth 100000 in
/-- r[:hi]. -/
theorem slice_rows (A : Option Addr) (n c hi : Nat) (hhi : hi ≤ c) : (∀ w, (Instr.sliceAt 25 (.slice A n c) none (some (.int .i64 (hi : Int))) none).run Try.prog w = .ok (.slice A hi c) w) := by
  intro w
  rw [run_sliceAt_slice w 25 _ _ _ _ Try.underlying25, run_slice_h w 25 A n c Try.underlying25 .i64 (hi : Int) (by omega) (by omega), size_rows]
  cases A <;> simp [Result.andThen, sliced, Addr.add]

theorem cnt_congrX {g h : Nat → Bool} : ∀ n, (∀ j, j < n → g j = h j) → cnt g n = cnt h n
  | 0, _ => rfl
  | n + 1, e => by rw [cnt, cnt, cnt_congrX n (fun j hj => e j (by omega)), e n (by omega)]
/-- Of a longer list the rows begin as they were. -/
theorem rows_take {x y : List Int} {N k : Nat} : ∀ i, i ≤ k → ∀ j, rowsF N (alikeAt (x.take k) y) i j = rowsF N (alikeAt x y) i j
  | 0, _, _ => rfl
  | i + 1, h, j => by
    have e : ∀ j, alikeAt (x.take k) y i j = alikeAt x y i j := fun j => by
      unfold alikeAt
      rw [List.getElem?_take, if_pos (by omega)]
    show rowF N (rowsF N (alikeAt (x.take k) y) i) (alikeAt (x.take k) y i) j = rowF N (rowsF N (alikeAt x y) i) (alikeAt x y i) j
    exact rowF_congr (fun j _ => rows_take i (by omega) j) (fun j _ => e j) j
theorem zeros_of (x y : List Int) {z : List Nat} (hz : ∀ j, bt z j = rowsF y.length (alikeAt x y) x.length j) : cnt (bt z) y.length + lcs x y = y.length := by
  have h := vB_count (x := x) (y := y) (i := x.length) (k := fun j => cnt (fun j => vB x y x.length j) j) rfl (fun j => rfl) y.length
  have e : cnt (bt z) y.length = cnt (fun j => vB x y x.length j) y.length := cnt_congrX _ fun j hj => by
    rw [hz j, rows_are (x := x) (y := y) (fun _ _ _ => rfl) _ j hj]
  have e2 : px x y x.length y.length = lcs x y := by
    unfold px
    rw [List.take_length, List.take_length]
  rw [e, ← e2]
  exact h
/-- The row behind: as it stands, and as Row tells it. -/
theorem next_same {x y : List Int} {k W : Nat} {c : Int} {p u q z : List Nat} (hN : y.length ≤ 64 * W) (hc : x[k]? = some c) (hp : ∀ j, bt p j = rowsF y.length (alikeAt x y) k j) (hu : ∀ j, bt u j = (decide (j < 64 * W) && decide (y[j]? = some c))) (hq : ∀ j, bt q j = (decide (j < 64 * W) && rowF y.length (bt p) (bt u) j)) (hz : ∀ j, bt z j = rowsF y.length (alikeAt x y) (k + 1) j) (lz : z.length = W) (lq : q.length = W) (wz : Wd z) (wq : Wd q) : z = q :=
  words_eq (by omega) wz wq fun j => by
    rw [hz j, hq j, rowF_words hN]
    exact (rowF_congr (fun j _ => hp j) (fun j hj => by rw [hu j, decide_eq_true (show j < 64 * W by omega), Bool.true_and, mask_alike hc]) j).symm

end Go.Proofs.Ytjkppifhjednoaa
