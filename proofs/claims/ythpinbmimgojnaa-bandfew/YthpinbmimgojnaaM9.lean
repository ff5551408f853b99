/-
  Words and contracts that the proof leans on.
-/
import Derived.Test.YthpinbmimgojnaaM4
import Derived.Test.YthpinbmimgojnaaM5
import Derived.Test.YthpinbmimgojnaaM7
import Derived.Test.YthpinbmimgojnaaM8
namespace Go.Proofs.Ythpinbmimgojnaa
open Go.RowKit Go.Shelf
attribute [local go_sem] Oper.semAt_some

/-- A row of numbers in memory. -/
def IsRow (w : World) (g n : Nat) (F : Nat → Int) : Prop := w.rowIs g 3 n (fun c => .int .i64 (F c))
theorem rowIs_kept {W W' : World} {b n : Nat} {t : TypeId} {f : Nat → Value} {row : Option Nat} (h : W.rowIs b t n f) (hg : W.grownBy W' row) (hrow : ∀ r, row = some r → ∃ o : Obj, W.heap[r]? = some o ∧ o.isCells = false) : W'.rowIs b t n f := by
  obtain ⟨c, hb, hr⟩ := h
  refine ⟨c, ?_, hr⟩
  rw [hg.block b (Array.getElem?_eq_some_iff.1 hb).1 (fun e => ?_)]
  · exact hb
  · obtain ⟨o, ho, hc⟩ := hrow b e.symm
    rw [hb] at ho
    cases ho
    cases hc
theorem rowIs_grown {W W' : World} {b n : Nat} {t : TypeId} {f : Nat → Value} {row : Option Nat} (h : W.rowIs b t n f) (hg : W.grownBy W' row) (hne : some b ≠ row) : W'.rowIs b t n f := h.of_block (hg.block b h.lt hne)
theorem grown_more {w W W' : World} {g row : Option Nat} (h : w.grownBy W g) (k : W.grownBy W' row) (hr : ∀ r, row = some r → w.heap.size ≤ r ∨ g = some r) : w.grownBy W' g :=
  ⟨k.os.trans h.os, k.tape.trans h.tape, k.output.trans h.output, Nat.le_trans h.size k.size, fun i hi hne => (k.block i (Nat.lt_of_lt_of_le hi h.size) (fun e => by
    rcases hr i e.symm with h' | h'
    · omega
    · exact hne h'.symm)).trans (h.block i hi hne)⟩
theorem grown_alloc {w W : World} {g : Option Nat} (h : w.grownBy W g) (o : Obj) : w.grownBy (W.alloc o) g := grown_more h (World.grownBy_alloc W o none) (fun r e => by cases e)
theorem grown_set {w W : World} {g : Nat} (h : w.grownBy W (some g)) (i : Nat) (v : Value) : w.grownBy (W.setCell ⟨g, i, none⟩ v) (some g) :=
  ⟨h.os, h.tape, h.output, by simpa using h.size, fun k hk hne => by
    rw [Below.heap_setCell _ _ _ _ (by show k ≠ g; intro e; exact hne (by rw [e]))]
    exact h.block k hk hne⟩
theorem grown_drew {w W : World} {g : Option Nat} (h : w.grownBy W g) : w.grownBy W.drew g := ⟨h.os, h.tape, h.output, h.size, h.block⟩

/-- One number of a row, from the row below it. -/
def stepB (x : Int) (G F : Nat → Int) (p : Nat × Int) : Nat → Int := fun c => if c = p.1 then (if x = p.2 then IntKind.i64.wrap (G (p.1 + 1) + 1) else (if G p.1 < F (p.1 + 1) then F (p.1 + 1) else G p.1)) else F c
def fillB (x : Int) (b : List Int) (G F : Nat → Int) : Nat → Int := (backs b b.length).foldl (stepB x G) F

/-- What holds between two rounds. -/
def FbI (x : Int) (b : List Int) (h g m c1 c2 : Nat) (G F : Nat → Int) (w : World) (pre : List (AtI b)) (W : World) : Prop :=
  IsRow W g (m + 1) ((pre.map Subtype.val).foldl (stepB x G) F) ∧ IsRow W h (m + 1) G ∧ Boxed W w.heap.size 3 (.int .i64 x) ∧ Boxed W (w.heap.size + 1) 25 (.slice (some ⟨h, 0, none⟩) (m + 1) c1) ∧ Boxed W (w.heap.size + 1 + 1) 25 (.slice (some ⟨g, 0, none⟩) (m + 1) c2) ∧ w.grownBy W (some g)
theorem fbI_own {x : Int} {b : List Int} {h g m c1 c2 : Nat} {G F : Nat → Int} {w : World} {B : Nat} (hB : w.heap.size ≤ B) : OwnFrom B (FbI x b h g m c1 c2 G F w) := by
  rintro pre W W' row ⟨h1, h2, h3, h4, h5, h6⟩ hg hr
  have hr' : ∀ r, row = some r → ∃ o : Obj, W.heap[r]? = some o ∧ o.isCells = false := fun r e => (hr r e).2
  have ne : ∀ {b t v}, Boxed W b t v → some b ≠ row := fun hb e => by
    obtain ⟨o, ho, hc⟩ := hr' _ e.symm
    rw [show W.heap[_]? = _ from hb] at ho
    cases ho
    cases hc
  exact ⟨rowIs_kept h1 hg hr', rowIs_kept h2 hg hr', h3.kept hg (ne h3), h4.kept hg (ne h4), h5.kept hg (ne h5), grown_more h6 hg (fun r e => .inl (Nat.le_trans hB (hr r e).1))⟩

/-- What a round reads. -/
def FbS (x : Int) (h g m c1 c2 j : Nat) (G F : Nat → Int) (z : Nat) (W : World) : Prop :=
  W.cell? ⟨z, 0, none⟩ = some (.int .i64 x) ∧ W.cell? ⟨z + 1, 0, none⟩ = some (.slice (some ⟨h, 0, none⟩) (m + 1) c1) ∧ W.cell? ⟨z + 1 + 1, 0, none⟩ = some (.slice (some ⟨g, 0, none⟩) (m + 1) c2) ∧
  W.cell? ⟨h, j + 1, none⟩ = some (.int .i64 (G (j + 1))) ∧ W.cell? ⟨h, j, none⟩ = some (.int .i64 (G j)) ∧ W.cell? ⟨g, j + 1, none⟩ = some (.int .i64 (F (j + 1)))
theorem cell_set_other {W : World} {p q : Addr} {v u : Value} (h : W.cell? p = some u) (hne : p.block ≠ q.block) : (W.setCell q v).cell? p = some u := by
  have e : (W.setCell q v).cell? p = W.cell? p := World.cell?_of_block (a := p) (Below.heap_setCell W q v p.block hne)
  rw [e, h]
theorem fbS_set {x : Int} {h g m c1 c2 j : Nat} {G F : Nat → Int} {z : Nat} {W : World} (hS : FbS x h g m c1 c2 j G F z W) (hg : g < z) (hgh : g ≠ h) (hr : ∃ F', IsRow W g (m + 1) F') (hj : j < m) (v : Value) : FbS x h g m c1 c2 j G F z (W.setCell ⟨g, j, none⟩ v) := by
  obtain ⟨s1, s2, s3, s4, s5, s6⟩ := hS
  refine ⟨cell_set_other s1 (by show z ≠ g; omega), cell_set_other s2 (by show z + 1 ≠ g; omega), cell_set_other s3 (by show z + 1 + 1 ≠ g; omega), cell_set_other s4 (by show h ≠ g; omega), cell_set_other s5 (by show h ≠ g; omega), ?_⟩
  obtain ⟨F', hr⟩ := hr
  have h1 := World.rowIs.cell (World.rowIs.set hr j v) (i := j + 1) (by omega)
  have h2 := World.rowIs.cell hr (i := j + 1) (by omega)
  simp only [show ¬ (j + 1 = j) by omega, if_false] at h1
  rw [h1, ← h2, s6]

/-- What a round leaves. -/
def FbP (x : Int) (b : List Int) (h g m c1 c2 B n₀ Bs : Nat) (G F : Nat → Int) (w : World) (pre : List (AtI b)) (W W' : World) : Prop :=
  KeepsFrom B W W' ∧ KpB n₀ Bs W W' ∧ FbI x b h g m c1 c2 G F w pre W'
theorem fbP_step {x : Int} {b : List Int} {h g m c1 c2 B n₀ : Nat} {G F : Nat → Int} {w W : World} {pre : List (AtI b)} (hI : FbI x b h g m c1 c2 G F w pre W) {j : Nat} {y v : Int} (hx : b[j]? = some y) (hgh : g ≠ h) (hg0 : n₀ ≤ g) (hgw : g < w.heap.size)
    (hv : v = stepB x G ((pre.map Subtype.val).foldl (stepB x G) F) (j, y) j) : FbP x b h g m c1 c2 B n₀ (w.heap.size + 1 + 1 + 1) G F w (pre ++ [⟨(j, y), hx⟩]) W (W.setCell ⟨g, j, none⟩ (.int .i64 v)) := by
  obtain ⟨h1, h2, h3, h4, h5, h6⟩ := hI
  refine ⟨(KeepsOthers.setCell _ _ _).from _, ⟨(Below.refl _ _).setCell hg0 _, Below.heap_setCell _ _ _ _ (by show _ ≠ g; omega)⟩, ?_, World.rowIs.setOther h2 (by show h ≠ g; exact fun e => hgh e.symm) _, ?_, ?_, ?_, grown_set h6 _ _⟩
  · refine World.rowIs.congr (World.rowIs.set h1 j _) fun i _ => ?_
    simp only [List.map_append, List.map_cons, List.map_nil, List.foldl_append, List.foldl_cons, List.foldl_nil]
    by_cases e : i = j
    · subst e
      rw [if_pos rfl, hv]
    · rw [if_neg e]
      congr 1
      exact (if_neg e).symm
  · exact (Below.heap_setCell W _ _ _ (by show _ ≠ g; omega)).trans h3
  · exact (Below.heap_setCell W _ _ _ (by show _ ≠ g; omega)).trans h4
  · exact (Below.heap_setCell W _ _ _ (by show _ ≠ g; omega)).trans h5
theorem FbP.drew {x : Int} {b : List Int} {h g m c1 c2 B n₀ Bs : Nat} {G F : Nat → Int} {w W W' : World} {pre : List (AtI b)} (hI : FbP x b h g m c1 c2 B n₀ Bs G F w pre W W') : FbP x b h g m c1 c2 B n₀ Bs G F w pre W W'.drew :=
  ⟨⟨hI.1.1, hI.1.2⟩, ⟨hI.2.1.1.drew, hI.2.1.2⟩, hI.2.2.1, hI.2.2.2.1, hI.2.2.2.2.1, hI.2.2.2.2.2.1, hI.2.2.2.2.2.2.1, grown_drew hI.2.2.2.2.2.2.2⟩

end Go.Proofs.Ythpinbmimgojnaa
