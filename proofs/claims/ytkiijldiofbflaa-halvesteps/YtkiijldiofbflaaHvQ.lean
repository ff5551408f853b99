/-
  Parts that are pending: their values, their cells, what is left to do.
-/
import Derived.Test.YtkiijldiofbflaaHv3
namespace Go.Proofs.Ytkiijldiofbflaa
open Go.RowKit

structure Pt where
  A : Option Addr
  B : Option Addr
  n : Nat
  m : Nat
  c : Nat
  d : Nat
  a : List Int
  b : List Int
  i : Nat
  j : Nat

def Pt.val (p : Pt) : Value := ptV p.A p.n p.c p.B p.m p.d (p.i : Int) (p.j : Int)
def Pt.cells (p : Pt) : List Value := [.slice p.A p.n p.c, .slice p.B p.m p.d, .int .i64 (p.i : Int), .int .i64 (p.j : Int)]
/-- A part of lists that can be read. -/
def Pt.ok (w : World) (p : Pt) : Prop := p.a.length = p.n ∧ p.b.length = p.m ∧ p.n ≤ p.c ∧ p.m ≤ p.d ∧ p.i + p.n ≤ 1048576 ∧ p.j + p.m ≤ 1048576 ∧ Row w p.A (iv p.a) ∧ Row w p.B (iv p.b)
def ptv (ps : List Pt) : List Value := ps.flatMap Pt.cells
theorem ptv_append (ps qs : List Pt) : ptv (ps ++ qs) = ptv ps ++ ptv qs := by simp [ptv]
theorem ptv_length : ∀ ps : List Pt, (ptv ps).length = ps.length * 4
  | [] => rfl
  | p :: ps => by
    show (Pt.cells p ++ ptv ps).length = _
    rw [List.length_append, ptv_length ps]
    simp [Pt.cells]
    omega
theorem ptv_cells (ps : List Pt) : ∀ u ∈ ptv ps, u.oneCell' = true := by
  intro u hu
  simp only [ptv, List.mem_flatMap] at hu
  obtain ⟨p, _, hp⟩ := hu
  simp [Pt.cells] at hp
  rcases hp with rfl | rfl | rfl | rfl <;> rfl
theorem ptv_last (ps : List Pt) (p : Pt) : (ptv (ps ++ [p]))[ps.length * 4]? = some (.slice p.A p.n p.c) ∧ (ptv (ps ++ [p]))[ps.length * 4 + 1]? = some (.slice p.B p.m p.d) ∧ (ptv (ps ++ [p]))[ps.length * 4 + 2]? = some (.int .i64 (p.i : Int)) ∧ (ptv (ps ++ [p]))[ps.length * 4 + 3]? = some (.int .i64 (p.j : Int)) := by
  have hl := ptv_length ps
  refine ⟨?_, ?_, ?_, ?_⟩ <;> (rw [ptv_append, List.getElem?_append_right (by omega), hl]) <;> simp [ptv, Pt.cells]

/-- What is left to do: the last part comes first. -/
def Pt.hv (p : Pt) : List Pr × Nat := Go.Proofs.Ytkiijldiofbflaa.hv p.a p.b (p.i : Int) (p.j : Int)
def todo (ps : List Pt) : List Pr := ps.reverse.flatMap fun p => p.hv.1
def cost (ps : List Pt) : Nat := (ps.map fun p => p.hv.2).sum
theorem todo_snoc (ps : List Pt) (p : Pt) : todo (ps ++ [p]) = p.hv.1 ++ todo ps := by simp [todo]
theorem cost_snoc (ps : List Pt) (p : Pt) : cost (ps ++ [p]) = cost ps + p.hv.2 := by simp [cost]

theorem Try.infoPart : (Try.prog.info? 38).map (fun i => (i.zero, i.size, i.bytes)) = some (some (.agg #[.slice none 0 0, .slice none 0 0, .int .i64 0, .int .i64 0]), 4, 64) := by kernel_rfl

/-- The last one is taken off. -/
theorem own_less {w : World} {B n c g sz k : Nat} {e : TypeId} {us vs : List Value} (h : w.ownsRow B e sz (.slice (some ⟨g, 0, none⟩) n c) n (us ++ vs)) (hk : k ≤ n) (hl : us.length = k * sz) : w.ownsRow B e sz (.slice (some ⟨g, 0, none⟩) k c) k us := by
  obtain ⟨h1, h2⟩ := h
  refine ⟨hl, .inr ?_⟩
  rcases h2 with ⟨hv, _⟩ | ⟨g', cap, cur, hv, hg, hh, h3, h4, h5, h6⟩
  · cases hv
  · have e1 : g = g' := by injection hv with h; injection h with h; injection h
    have e2 : c = cap := by injection hv
    subst e1
    subst e2
    refine ⟨g, c, cur, rfl, hg, hh, by omega, h4, h5, ?_⟩
    have h7 := congrArg (List.take us.length) h6
    rw [List.take_left', List.take_take] at h7
    · rw [← h7, hl, Nat.min_eq_left (Nat.mul_le_mul_right _ hk)]
    · rfl
theorem size_part (w : World) : (sizeOf (Try.prog.elem 39)).run Try.prog w = .ok 4 w := by
  rfl
theorem slice_less (A : Option Addr) (n c hi : Nat) (hhi : hi ≤ c) : ∀ w, (Instr.sliceAt 39 (.slice A n c) none (some (.int .i64 (hi : Int))) none).run Try.prog w = .ok (.slice A hi c) w := by
  intro w
  rw [run_sliceAt_slice w 39 _ _ _ _ Try.underlying39, run_slice_h w 39 A n c Try.underlying39 .i64 (hi : Int) (by omega) (by omega), size_part]
  cases A <;> simp [Result.andThen, sliced, Addr.add]

end Go.Proofs.Ytkiijldiofbflaa
