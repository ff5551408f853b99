/-
  Words and contracts that the proof leans on.
-/
import Derived.Test.YtmhnciljbdflcaaM12
import Derived.Test.YtmhnciljbdflcaaM10
import Derived.Deep.DeepCutAuto
import Derived.Deep.RegionWith
namespace Go.Proofs.Ytmhnciljbdflcaa
open Go.RowKit

theorem own_isRow {w : World} {B g m : Nat} {F : Nat → Int} (h : IsRow w g (m + 1) F) (hB : B ≤ g) (hm : m + 1 ≤ maxLen) : w.ownsRow B 3 1 (.slice (some ⟨g, 0, none⟩) (m + 1) (m + 1)) (m + 1) (iv (rowL m F)) := by
  obtain ⟨c, h1, h2, h3⟩ := h
  refine own_of_heap hB hm (by rw [iv_length, rowL_length]) ?_
  rw [h1]
  congr 2
  refine Array.ext_getElem? fun i => ?_
  rcases Nat.lt_or_ge i (m + 1) with g | g
  · rw [h3 i g]
    unfold iv
    rw [List.getElem?_toArray, List.getElem?_map, rowL_get (by omega)]
    rfl
  · rw [Array.getElem?_eq_none (by omega), List.getElem?_toArray, List.getElem?_eq_none (by rw [iv_length, rowL_length]; omega)]
theorem made_isRow {w w' : World} {g m : Nat} {F : Nat → Int} {l : List Int} (h : IsRow w' g (m + 1) F) (hB : w.heap.size ≤ g) (hm : m ≤ 1048576) (hl : l = rowL m F) (hb : Below w.heap.size w w') : MadeI l w (.returned (.slice (some ⟨g, 0, none⟩) (m + 1) (m + 1))) w' := by
  subst hl
  refine ⟨_, rfl, ?_, hb⟩
  rw [rowL_length]
  exact own_isRow h hB (by unfold maxLen; omega)

/-- Two rows: the last one that is done, and one to fill. -/
def FrRows (a b : List Int) (m i : Nat) (u v : Value) (w wr : World) : Prop :=
  ∃ (h g : Nat) (F G : Nat → Int), u = .slice (some ⟨h, 0, none⟩) (m + 1) (m + 1) ∧ v = .slice (some ⟨g, 0, none⟩) (m + 1) (m + 1) ∧ g ≠ h ∧ w.heap.size ≤ g ∧ w.heap.size ≤ h ∧ IsRow wr h (m + 1) G ∧ IsRow wr g (m + 1) F ∧ F 0 = 0 ∧ (∀ c, c ≤ m → G c = (px a b i c : Nat)) ∧ Below w.heap.size w wr
theorem fr_made (w : World) (m : Nat) : IsRow (w.alloc (.cells (madeCells #[.int .i64 0] (m + 1)) 3)) w.heap.size (m + 1) (fun _ => 0) := World.rowIs_made w _ _ _
theorem fr_two (a b : List Int) (m : Nat) (w : World) : let w2 := (w.drew.alloc (.cells (madeCells #[.int .i64 0] (m + 1)) 3)).alloc (.cells (madeCells #[.int .i64 0] (m + 1)) 3)
    FrRows a b m 0 (.slice (some ⟨w.heap.size, 0, none⟩) (m + 1) (m + 1)) (.slice (some ⟨w.heap.size + 1, 0, none⟩) (m + 1) (m + 1)) w w2 ∧ FrRows a b m 0 (.slice (some ⟨w.heap.size + 1, 0, none⟩) (m + 1) (m + 1)) (.slice (some ⟨w.heap.size, 0, none⟩) (m + 1) (m + 1)) w w2 := by
  have r1 := World.rowIs.alloc (fr_made w.drew m) (.cells (madeCells #[.int .i64 0] (m + 1)) 3)
  have r2 := fr_made (w.drew.alloc (.cells (madeCells #[.int .i64 0] (m + 1)) 3)) m
  have hB : Below w.heap.size w ((w.drew.alloc (.cells (madeCells #[.int .i64 0] (m + 1)) 3)).alloc (.cells (madeCells #[.int .i64 0] (m + 1)) 3)) := (((Below.refl _ w).drew).alloc (Nat.le_refl _) _).alloc (by simp) _
  have hz : ∀ c, c ≤ m → (fun _ : Nat => (0 : Int)) c = (px a b 0 c : Nat) := fun c _ => by rw [px_zero_left]; rfl
  simp only [World.size_alloc] at r2
  exact ⟨⟨_, _, _, _, rfl, rfl, by omega, by omega, by omega, r1, r2, rfl, hz, hB⟩, ⟨_, _, _, _, rfl, rfl, by omega, by omega, by omega, r2, r1, rfl, hz, hB⟩⟩

/-! ### Next -/
def FnRel (x : Int) (b : List Int) (row : List Int) (A1 : Option Addr) (g m : Nat) (F : Nat → Int) (w : World) (i : Value) (wr : World) : Prop :=
  ∃ k : Nat, k ≤ m ∧ i = .int .i64 (k : Int) ∧ IsRow wr g (m + 1) (fillA x b (nth row) F k) ∧ Row wr A1 (iv row) ∧ w.grownBy wr (some g)
theorem fn_step {x : Int} {b row : List Int} {h o g m k : Nat} {F : Nat → Int} {w wr : World} {y v : Int} (hk : k < m) (hy : b[k]? = some y) (hgh : g ≠ h) (h1 : IsRow wr g (m + 1) (fillA x b (nth row) F k)) (h2 : Row wr (some ⟨h, o, none⟩) (iv row)) (h3 : w.grownBy wr (some g)) (hv : v = stepA x (nth row) (fillA x b (nth row) F k) (k, y) (k + 1)) : FnRel x b row (some ⟨h, o, none⟩) g m F w (.int .i64 ((k + 1 : Nat) : Int)) (wr.setCell ⟨g, k + 1, none⟩ (.int .i64 v)) := by
  refine ⟨k + 1, hk, rfl, ?_, h2.grown (grown_set (World.grownBy.refl wr _) _ _) (fun a e => by cases e; intro e; injection e with e; exact hgh e.symm), grown_set h3 _ _⟩
  refine World.rowIs.congr (World.rowIs.set h1 (k + 1) _) fun i _ => ?_
  show _ = Value.int .i64 (stepA x (nth row) (fillA x b (nth row) F k) (k, b[k]?.getD 0) i)
  rw [hy]
  by_cases e : i = k + 1
  · subst e
    rw [if_pos rfl, hv]
    rfl
  · rw [if_neg e]
    congr 1
    exact (if_neg e).symm
theorem FnRel.drew {x : Int} {b row : List Int} {A1 : Option Addr} {g m : Nat} {F : Nat → Int} {w wr : World} {i : Value} (hr : FnRel x b row A1 g m F w i wr) : FnRel x b row A1 g m F w i wr.drew := by
  obtain ⟨k, h1, h2, h3, h4, h5⟩ := hr
  exact ⟨k, h1, h2, h3, h4, grown_drew h5⟩
theorem Row.nth {w : World} {h o : Nat} {l : List Int} (hr : Row w (some ⟨h, o, none⟩) (iv l)) {k : Nat} (hk : k < l.length) : w.cell? ⟨h, o + k, none⟩ = some (.int .i64 (nth l k)) := by
  obtain ⟨g, o', e, hc⟩ := hr.int hk
  cases e
  rw [hc, nth_of (List.getElem?_eq_getElem hk)]

theorem lt_of_c {w : World} {a : Addr} {v : Value} (h : w.cell? a = some v) : a.block < w.heap.size := by
  rcases Nat.lt_or_ge a.block w.heap.size with g | g
  · exact g
  · simp [World.cell?, Array.getElem?_eq_none g] at h
theorem nx_start {w : World} {g m : Nat} (h : IsRow w g (m + 1) (fun _ => 0)) (r : Int) : IsRow (w.setCell ⟨g, 0, none⟩ (.int .i64 r)) g (m + 1) (fun c => if c = 0 then r else 0) :=
  World.rowIs.congr (World.rowIs.set h 0 _) fun c _ => by dsimp only; split <;> rfl

end Go.Proofs.Ytmhnciljbdflcaa
