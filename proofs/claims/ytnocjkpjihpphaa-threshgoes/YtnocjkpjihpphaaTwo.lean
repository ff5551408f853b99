/-
  Two new rows and their variables, made in whatever order; variables that are kept.
-/
import Derived.Test.YtnocjkpjihpphaaFb1
namespace Go.Proofs.Ytnocjkpjihpphaa
open Go.RowKit Go.Shelf

theorem boxed_keptO {W W' : World} {b : Nat} {t : TypeId} {v : Value} {row : Option Nat} (h : Boxed W b t v) (hg : W.grownBy W' row) (hrow : ∀ r, row = some r → ∃ o : Obj, W.heap[r]? = some o ∧ o.isCells = false) : Boxed W' b t v := h.kept hg (fun e => by
  obtain ⟨o, ho, hc⟩ := hrow _ e.symm
  rw [show W.heap[_]? = _ from h] at ho
  cases ho
  cases hc)
theorem boxed_ne {W : World} {z g n : Nat} {t t' : TypeId} {v : Value} {f : Nat → Value} (h : Boxed W z t v) (hr : W.rowIs g t' n f) (ht : t ≠ t') : z ≠ g := by
  rintro rfl
  obtain ⟨c, hc, _⟩ := hr
  rw [show W.heap[z]? = _ from h] at hc
  simp only [Option.some.injEq, Obj.cells.injEq] at hc
  exact ht hc.2.1
/-- What the two new rows and their variables are. -/
def TnTwo (m s : Nat) (w3 : World) (g h z6 z7 : Nat) (W : World) : Prop :=
  IsRow W g (m + 1) (fun _ => 0) ∧ IsRow W h (m + 1) (fun _ => 0) ∧ Boxed W z6 22 (.slice (some ⟨g, 0, none⟩) (m + 1) (m + 1)) ∧ Boxed W z7 22 (.slice (some ⟨h, 0, none⟩) (m + 1) (m + 1)) ∧ (g ≠ h ∧ z6 ≠ z7 ∧ s ≤ g ∧ s ≤ h ∧ s ≤ z6 ∧ s ≤ z7 ∧ g < s + 4 ∧ h < s + 4 ∧ z6 < s + 4 ∧ z7 < s + 4) ∧ Below s w3 W ∧ W.heap.size = s + 4
theorem four (w3 : World) (s : Nat) (hs : w3.heap.size = s) (o0 o1 o2 o3 : Obj) : let W := ((((w3.alloc o0).alloc o1).alloc o2).alloc o3).drew
    W.heap[s]? = some o0 ∧ W.heap[s + 1]? = some o1 ∧ W.heap[s + 1 + 1]? = some o2 ∧ W.heap[s + 1 + 1 + 1]? = some o3 ∧ Below s w3 W ∧ W.heap.size = s + 4 := by
  subst hs
  have e1 := World.alloc_heap_new w3 o0
  have e2 := World.alloc_heap_new (w3.alloc o0) o1
  have e3 := World.alloc_heap_new ((w3.alloc o0).alloc o1) o2
  have e4 := World.alloc_heap_new (((w3.alloc o0).alloc o1).alloc o2) o3
  simp only [World.size_alloc] at e2 e3 e4
  refine ⟨?_, ?_, ?_, e4, ((((Below.refl _ _).alloc (Nat.le_refl _) _).alloc (by simp) _).alloc (by simp; omega) _).alloc (by simp; omega) _ |>.drew, by simp⟩
  · exact (Below.heap_alloc _ _ _ (by simp <;> omega)).trans ((Below.heap_alloc _ _ _ (by simp <;> omega)).trans ((Below.heap_alloc _ _ _ (by simp)).trans e1))
  · exact (Below.heap_alloc _ _ _ (by simp <;> omega)).trans ((Below.heap_alloc _ _ _ (by simp)).trans e2)
  · exact (Below.heap_alloc _ _ _ (by simp)).trans e3
theorem row_zero {W : World} {g m : Nat} (h : W.heap[g]? = some (.cells (madeCells #[.int .i64 0] (m + 1)) 3)) : IsRow W g (m + 1) (fun _ => 0) :=
  ⟨_, h, size_madeCells _ _, fun i hi => by simp [madeCells, hi, Nat.mod_one]⟩

theorem tn_two {m s g h z6 z7 : Nat} {w3 : World} {o0 o1 o2 o3 : Obj} (hs : w3.heap.size = s)
    (eg : (g = s ∧ o0 = .cells (madeCells #[.int .i64 0] (m + 1)) 3) ∨ (g = s + 1 ∧ o1 = .cells (madeCells #[.int .i64 0] (m + 1)) 3) ∨ (g = s + 1 + 1 ∧ o2 = .cells (madeCells #[.int .i64 0] (m + 1)) 3) ∨ (g = s + 1 + 1 + 1 ∧ o3 = .cells (madeCells #[.int .i64 0] (m + 1)) 3))
    (eh : (h = s ∧ o0 = .cells (madeCells #[.int .i64 0] (m + 1)) 3) ∨ (h = s + 1 ∧ o1 = .cells (madeCells #[.int .i64 0] (m + 1)) 3) ∨ (h = s + 1 + 1 ∧ o2 = .cells (madeCells #[.int .i64 0] (m + 1)) 3) ∨ (h = s + 1 + 1 + 1 ∧ o3 = .cells (madeCells #[.int .i64 0] (m + 1)) 3))
    (e6 : (z6 = s ∧ o0 = .cells #[.slice (some ⟨g, 0, none⟩) (m + 1) (m + 1)] 22) ∨ (z6 = s + 1 ∧ o1 = .cells #[.slice (some ⟨g, 0, none⟩) (m + 1) (m + 1)] 22) ∨ (z6 = s + 1 + 1 ∧ o2 = .cells #[.slice (some ⟨g, 0, none⟩) (m + 1) (m + 1)] 22) ∨ (z6 = s + 1 + 1 + 1 ∧ o3 = .cells #[.slice (some ⟨g, 0, none⟩) (m + 1) (m + 1)] 22))
    (e7 : (z7 = s ∧ o0 = .cells #[.slice (some ⟨h, 0, none⟩) (m + 1) (m + 1)] 22) ∨ (z7 = s + 1 ∧ o1 = .cells #[.slice (some ⟨h, 0, none⟩) (m + 1) (m + 1)] 22) ∨ (z7 = s + 1 + 1 ∧ o2 = .cells #[.slice (some ⟨h, 0, none⟩) (m + 1) (m + 1)] 22) ∨ (z7 = s + 1 + 1 + 1 ∧ o3 = .cells #[.slice (some ⟨h, 0, none⟩) (m + 1) (m + 1)] 22))
    (hne : g ≠ h ∧ z6 ≠ z7) : TnTwo m s w3 g h z6 z7 ((((w3.alloc o0).alloc o1).alloc o2).alloc o3).drew := by
  obtain ⟨f0, f1, f2, f3, f4, f5⟩ := four w3 s hs o0 o1 o2 o3
  have key : ∀ {z : Nat} {o : Obj}, (z = s ∧ o0 = o) ∨ (z = s + 1 ∧ o1 = o) ∨ (z = s + 1 + 1 ∧ o2 = o) ∨ (z = s + 1 + 1 + 1 ∧ o3 = o) → (((((w3.alloc o0).alloc o1).alloc o2).alloc o3).drew).heap[z]? = some o ∧ s ≤ z ∧ z < s + 4 := by
    rintro z o (⟨rfl, rfl⟩ | ⟨rfl, rfl⟩ | ⟨rfl, rfl⟩ | ⟨rfl, rfl⟩)
    · exact ⟨f0, by omega, by omega⟩
    · exact ⟨f1, by omega, by omega⟩
    · exact ⟨f2, by omega, by omega⟩
    · exact ⟨f3, by omega, by omega⟩
  have kg := key eg
  have kh := key eh
  have k6 := key e6
  have k7 := key e7
  exact ⟨row_zero kg.1, row_zero kh.1, k6.1, k7.1, ⟨hne.1, hne.2, kg.2.1, kh.2.1, k6.2.1, k7.2.1, kg.2.2, kh.2.2, k6.2.2, k7.2.2⟩, f4, f5⟩


end Go.Proofs.Ytnocjkpjihpphaa
