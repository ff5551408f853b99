/-
  Contracts of package halve's own, single.
-/
import Derived.Test.YtkiijldiofbflaaHvP
import Derived.Test.YtkiijldiofbflaaIdx
import Derived.Test.YtkiijldiofbflaaOwnG
import Derived.BigQuiet
namespace Go.Proofs.Ytkiijldiofbflaa
open Go.RowKit

/-- A part, as a value. -/
def ptV (A : Option Addr) (n c : Nat) (B : Option Addr) (m d : Nat) (i j : Int) : Value := .agg #[.slice A n c, .slice B m d, .int .i64 i, .int .i64 j]

/-- A variable that is a part. -/
def cv4 (x y z u : Value) : Nat → Value
  | 0 => x
  | 1 => y
  | 2 => z
  | _ => u
def Bx4 (w : World) (P : Nat) (x y z u : Value) : Prop := w.rowIs P 38 4 (cv4 x y z u)
theorem Bx4.cells {w : World} {P : Nat} {x y z u : Value} (h : Bx4 w P x y z u) : w.cell? ⟨P, 0, none⟩ = some x ∧ w.cell? ⟨P, 1, none⟩ = some y ∧ w.cell? ⟨P, 2, none⟩ = some z ∧ w.cell? ⟨P, 3, none⟩ = some u :=
  ⟨World.rowIs.cell h (by omega), World.rowIs.cell h (by omega), World.rowIs.cell h (by omega), World.rowIs.cell h (by omega)⟩
theorem Bx4.frozen {w : World} {P : Nat} {x y z u : Value} (h : Bx4 w P x y z u) (i : Nat) : w.frozen? ⟨P, i, none⟩ = false := World.rowIs.frozen h i
theorem bx4_new (w : World) (x y z u : Value) : Bx4 (w.alloc (.cells #[x, y, z, u] 38)) w.heap.size x y z u := by
  refine World.rowIs_alloc w _ _ _ fun i hi => ?_
  have : i = 0 ∨ i = 1 ∨ i = 2 ∨ i = 3 := by simp at hi; omega
  rcases this with rfl | rfl | rfl | rfl <;> rfl
theorem Bx4.grown {w w' : World} {P : Nat} {x y z u : Value} {r : Option Nat} (h : Bx4 w P x y z u) (hg : w.grownBy w' r) (hne : some P ≠ r) : Bx4 w' P x y z u := rowIs_grown h hg hne
theorem Bx4.below {w w' : World} {P : Nat} {x y z u : Value} (h : Bx4 w P x y z u) (hb : Below w.heap.size w w') : Bx4 w' P x y z u := h.grown (below_grown hb none) (by simp)
theorem Bx4.set {w : World} {P : Nat} {x y z u : Value} (h : Bx4 w P x y z u) (x' y' z' u' : Value) : Bx4 ((((w.setCell ⟨P, 0, none⟩ x').setCell ⟨P, 1, none⟩ y').setCell ⟨P, 2, none⟩ z').setCell ⟨P, 3, none⟩ u') P x' y' z' u' := by
  refine World.rowIs.congr (World.rowIs.set (World.rowIs.set (World.rowIs.set (World.rowIs.set h 0 x') 1 y') 2 z') 3 u') fun i hi => ?_
  have : i = 0 ∨ i = 1 ∨ i = 2 ∨ i = 3 := by omega
  rcases this with rfl | rfl | rfl | rfl <;> rfl
theorem Bx4.other {w : World} {P Q i : Nat} {x y z u v : Value} (h : Bx4 w P x y z u) (hne : P ≠ Q) : Bx4 (w.setCell ⟨Q, i, none⟩ v) P x y z u := World.rowIs.of_block h (heap_setCell_other _ _ _ _ (fun e => hne e))

set_option maxHeartbeats 800000 in
theorem own_any (A B : Option Addr) (n m c d : Nat) (i j : Int) (w : World) (hn : n ≤ 1048576) (hm : m ≤ 1048576) :
    Calls Try.prog 17 #[ptV A n c B m d i j] w fun e w' => e = .returned (.int .i64 ((n * m : Nat) : Int)) ∧ Below w.heap.size w w' := by
  obtain ⟨N, hN⟩ : ∃ N, n * m = N := ⟨_, rfl⟩
  have hl : N ≤ 1048576 * 1048576 := by rw [← hN]; exact Nat.mul_le_mul hn hm
  have e1 : (n : Int) * (m : Int) = (N : Int) := by rw [← hN]; simp
  rw [hN]
  clear hN
  unfold ptV
  go_enter Try.func17, Try.ntmps17
  go_wp2_with fail
  go_ret
  exact ⟨rfl, (Below.refl _ _).alloc (Nat.le_refl _) _⟩

theorem index_quiet (B : Option Addr) (m d : Nat) (b : List Int) (x : Int) (w : World) (q : Nat) (hm : b.length = m) (hm' : m ≤ 1048576) (hb : Row w B (iv b)) : Calls Try.prog 26 #[.slice B m d, .int .i64 x] (w.drewN q) fun e w' => e = .returned (.int .i64 (idxI x b)) ∧ ∃ k, w' = w.drewN k :=
  (index_any B m d b x (w.drewN q) hm hm' hb).mono fun _ _ h => ⟨h.1, q, h.2⟩

set_option maxHeartbeats 1600000 in
theorem single_any (A B : Option Addr) (m c d base : Nat) (x : Int) (b : List Int) (i j : Nat) (L : List Pr) (v0 : Value) (w : World) (hm : b.length = m) (hm' : m ≤ 1048576) (hj : j ≤ 1048576) (hL : L.length ≤ 1048576) (h1 : Row w A (iv [x])) (h2 : Row w B (iv b)) (hbase : base ≤ w.heap.size) (hown : w.ownsRow base 28 2 v0 L.length (pv L)) :
    Calls Try.prog 18 #[ptV A 1 c B m d (i : Int) (j : Int), v0] w (Ext base v0 (L ++ one1 x b (i : Int) (j : Int)) w) := by
  obtain ⟨i0, hi0, hz0, hz1, hz2⟩ := info_parts Try.infoPair
  obtain ⟨g, o, rfl, hc0⟩ := h1.int (k := 0) (by simp)
  obtain ⟨g', o', e0, hc⟩ := (h1.alloc (.cells #[.slice (some ⟨g, o, none⟩) 1 c, .slice B m d, .int .i64 (i : Int), .int .i64 (j : Int)] 38)).int (k := 0) (by simp)
  cases e0
  simp only [Nat.add_zero, List.getElem_cons_zero] at hc
  clear hc0
  have HM := Lib.hid hm
  clear hm h1
  cases hat : at1 x b with
  | none =>
    have ei : idxI x b = -1 := by unfold idxI; rw [hat]
    have HE : Hid (one1 x b (i : Int) (j : Int) = []) := by show _ = _; unfold one1; rw [hat]
    have HR : Hid (Own base v0 (L ++ one1 x b (i : Int) (j : Int)) w v0 w) := by
      show Own _ _ _ _ _ _
      rw [HE.out, List.append_nil]
      exact Own.refl hown
    unfold ptV
    clear hown
    go_enter Try.func18, Try.ntmps18
    go_wp2_with fail
    go_quiet ((go_at_call 26; exact index_quiet _ _ _ _ _ _ _ HM.out hm' (h2.alloc _)))
    rw [ei]
    go_wp2_with fail
    go_ret
    exact ⟨_, rfl, (HR.out.alloc _).drewN _⟩
  | some k =>
    have ei : idxI x b = (k : Int) := by unfold idxI; rw [hat]
    have hk : k < m := by have := (List.getElem?_eq_some_iff.1 (at1_some hat).1).1; rw [HM.out] at this; exact this
    have HE : Hid (one1 x b (i : Int) (j : Int) = [((i : Int), (j : Int) + (k : Int))]) := by show _ = _; unfold one1; rw [hat]
    have HO := Lib.hid (Own.refl hown)
    unfold ptV
    clear hown
    go_enter Try.func18, Try.ntmps18
    go_wp2_with fail
    go_quiet ((go_at_call 26; exact index_quiet _ _ _ _ _ _ _ HM.out hm' (h2.alloc _)))
    rw [ei]
    have hO1 := (HO.out.alloc (.cells #[.slice (some ⟨g, o, none⟩) 1 c, .slice B m d, .int .i64 (i : Int), .int .i64 (j : Int)] 38)).drewN nq
    have hBx : Bx4 ((w.alloc (.cells #[.slice (some ⟨g, o, none⟩) 1 c, .slice B m d, .int .i64 (i : Int), .int .i64 (j : Int)] 38)).drewN nq) w.heap.size (.slice (some ⟨g, o, none⟩) 1 c) (.slice B m d) (.int .i64 (i : Int)) (.int .i64 (j : Int)) := bx4_new w _ _ _ _
    have hsz : w.heap.size ≤ ((w.alloc (.cells #[.slice (some ⟨g, o, none⟩) 1 c, .slice B m d, .int .i64 (i : Int), .int .i64 (j : Int)] 38)).drewN nq).heap.size := by simp
    clear HO hc ei hat
    generalize (w.alloc (.cells #[.slice (some ⟨g, o, none⟩) 1 c, .slice B m d, .int .i64 (i : Int), .int .i64 (j : Int)] 38)).drewN nq = wy at *
    obtain ⟨_, _, p3, p4⟩ := hBx.cells
    go_wp2_with (at_builtin; refine wpList_append_own_at _ rfl (.tmp 15) (.tmp 23) 22 rfl base 28 i0 (.agg #[.int .i64 0, .int .i64 0]) 2 16 Try.underlying22 hi0 hz0 hz1 hz2 rfl (by decide) _ _ _ rfl (hO1.1.alloc _) ⟨wy.heap.size, 0, none⟩ 1 1 [_, _] rfl rfl (pair_new _ _ _ _) (one_pair _ _) (by unfold maxLen; omega) (by omega) (by simp; omega) ?_)
    intro v' w' q1 q2 _ q3
    have HR : Hid (Own base v0 (L ++ one1 x b (i : Int) (j : Int)) w v' w') := by
      show Own _ _ _ _ _ _
      rw [HE.out]
      exact (hO1.alloc _).step (own_app q1 q2 (by simpa using q3))
    clear q1 q2 q3 hO1 HE
    go_wp2_with fail
    go_ret
    exact ⟨_, rfl, HR.out⟩

end Go.Proofs.Ytkiijldiofbflaa
