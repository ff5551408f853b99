/-
  Words and contracts that the proof leans on.
-/
import Derived.Test.YtmhnciljbdflcaaM4
import Derived.Test.YtmhnciljbdflcaaM5
import Derived.Test.YtmhnciljbdflcaaM7
import Derived.Test.YtmhnciljbdflcaaM8
namespace Go.Proofs.Ytmhnciljbdflcaa
open Go.RowKit Go.Shelf
attribute [local go_sem] Oper.semAt_some

/-- A row of numbers in memory. -/
def IsRow (w : World) (g n : Nat) (F : Nat → Int) : Prop := w.rowIs g 3 n (fun c => .int .i64 (F c))
theorem rowIs_kept {W W' : World} {b n : Nat} {t : TypeId} {f : Nat → Value} {row : Option Nat} (h : W.rowIs b t n f) (hg : W.grownBy W' row) (hrow : ∀ r, row = some r → ∃ o : Obj, W.heap[r]? = some o ∧ o.isCells = false) : W'.rowIs b t n f := by
  obtain ⟨c, hb, hr⟩ := h
  refine ⟨c, ?_, hr⟩
  rw [hg.block b (Array.getElem?_eq_some_iff.1 hb).1 (fun e => ?_)]
  · exact hb
  · obtain ⟨o, ho, hc⟩ := hrow b e.symm
    rw [hb] at ho
    cases ho
    cases hc
theorem rowIs_grown {W W' : World} {b n : Nat} {t : TypeId} {f : Nat → Value} {row : Option Nat} (h : W.rowIs b t n f) (hg : W.grownBy W' row) (hne : some b ≠ row) : W'.rowIs b t n f := h.of_block (hg.block b h.lt hne)
theorem grown_more {w W W' : World} {g row : Option Nat} (h : w.grownBy W g) (k : W.grownBy W' row) (hr : ∀ r, row = some r → w.heap.size ≤ r ∨ g = some r) : w.grownBy W' g :=
  ⟨k.os.trans h.os, k.tape.trans h.tape, k.output.trans h.output, Nat.le_trans h.size k.size, fun i hi hne => (k.block i (Nat.lt_of_lt_of_le hi h.size) (fun e => by
    rcases hr i e.symm with h' | h'
    · omega
    · exact hne h'.symm)).trans (h.block i hi hne)⟩
theorem grown_alloc {w W : World} {g : Option Nat} (h : w.grownBy W g) (o : Obj) : w.grownBy (W.alloc o) g := grown_more h (World.grownBy_alloc W o none) (fun r e => by cases e)
theorem grown_set {w W : World} {g : Nat} (h : w.grownBy W (some g)) (i : Nat) (v : Value) : w.grownBy (W.setCell ⟨g, i, none⟩ v) (some g) :=
  ⟨h.os, h.tape, h.output, by simpa using h.size, fun k hk hne => by
    rw [Below.heap_setCell _ _ _ _ (by show k ≠ g; intro e; exact hne (by rw [e]))]
    exact h.block k hk hne⟩
theorem grown_drew {w W : World} {g : Option Nat} (h : w.grownBy W g) : w.grownBy W.drew g := ⟨h.os, h.tape, h.output, h.size, h.block⟩

/-- One number of a row, from the row below it. -/
def stepB (x : Int) (G F : Nat → Int) (p : Nat × Int) : Nat → Int := fun c => if c = p.1 then (if x = p.2 then IntKind.i64.wrap (G (p.1 + 1) + 1) else (if G p.1 < F (p.1 + 1) then F (p.1 + 1) else G p.1)) else F c
def fillB (x : Int) (b : List Int) (G F : Nat → Int) : Nat → Int := (backs b b.length).foldl (stepB x G) F

/-- What holds between two rounds. -/
def FbI (x : Int) (b : List Int) (h g m c1 c2 : Nat) (G F : Nat → Int) (w : World) (pre : List (AtI b)) (W : World) : Prop :=
  IsRow W g (m + 1) ((pre.map Subtype.val).foldl (stepB x G) F) ∧ IsRow W h (m + 1) G ∧ Boxed W w.heap.size 3 (.int .i64 x) ∧ Boxed W (w.heap.size + 1) 25 (.slice (some ⟨h, 0, none⟩) (m + 1) c1) ∧ Boxed W (w.heap.size + 1 + 1) 25 (.slice (some ⟨g, 0, none⟩) (m + 1) c2) ∧ w.grownBy W (some g)
theorem fbI_own {x : Int} {b : List Int} {h g m c1 c2 : Nat} {G F : Nat → Int} {w : World} {B : Nat} (hB : w.heap.size ≤ B) : OwnFrom B (FbI x b h g m c1 c2 G F w) := by
  rintro pre W W' row ⟨h1, h2, h3, h4, h5, h6⟩ hg hr
  have hr' : ∀ r, row = some r → ∃ o : Obj, W.heap[r]? = some o ∧ o.isCells = false := fun r e => (hr r e).2
  have ne : ∀ {b t v}, Boxed W b t v → some b ≠ row := fun hb e => by
    obtain ⟨o, ho, hc⟩ := hr' _ e.symm
    rw [show W.heap[_]? = _ from hb] at ho
    cases ho
    cases hc
  exact ⟨rowIs_kept h1 hg hr', rowIs_kept h2 hg hr', h3.kept hg (ne h3), h4.kept hg (ne h4), h5.kept hg (ne h5), grown_more h6 hg (fun r e => .inl (Nat.le_trans hB (hr r e).1))⟩

/-- What a round reads. -/
def FbS (x : Int) (h g m c1 c2 j : Nat) (G F : Nat → Int) (z : Nat) (W : World) : Prop :=
  W.cell? ⟨z, 0, none⟩ = some (.int .i64 x) ∧ W.cell? ⟨z + 1, 0, none⟩ = some (.slice (some ⟨h, 0, none⟩) (m + 1) c1) ∧ W.cell? ⟨z + 1 + 1, 0, none⟩ = some (.slice (some ⟨g, 0, none⟩) (m + 1) c2) ∧
  W.cell? ⟨h, j + 1, none⟩ = some (.int .i64 (G (j + 1))) ∧ W.cell? ⟨h, j, none⟩ = some (.int .i64 (G j)) ∧ W.cell? ⟨g, j + 1, none⟩ = some (.int .i64 (F (j + 1)))
theorem cell_set_other {W : World} {p q : Addr} {v u : Value} (h : W.cell? p = some u) (hne : p.block ≠ q.block) : (W.setCell q v).cell? p = some u := by
  have e : (W.setCell q v).cell? p = W.cell? p := World.cell?_of_block (a := p) (Below.heap_setCell W q v p.block hne)
  rw [e, h]
theorem fbS_set {x : Int} {h g m c1 c2 j : Nat} {G F : Nat → Int} {z : Nat} {W : World} (hS : FbS x h g m c1 c2 j G F z W) (hg : g < z) (hgh : g ≠ h) (hr : ∃ F', IsRow W g (m + 1) F') (hj : j < m) (v : Value) : FbS x h g m c1 c2 j G F z (W.setCell ⟨g, j, none⟩ v) := by
  obtain ⟨s1, s2, s3, s4, s5, s6⟩ := hS
  refine ⟨cell_set_other s1 (by show z ≠ g; omega), cell_set_other s2 (by show z + 1 ≠ g; omega), cell_set_other s3 (by show z + 1 + 1 ≠ g; omega), cell_set_other s4 (by show h ≠ g; omega), cell_set_other s5 (by show h ≠ g; omega), ?_⟩
  obtain ⟨F', hr⟩ := hr
  have h1 := World.rowIs.cell (World.rowIs.set hr j v) (i := j + 1) (by omega)
  have h2 := World.rowIs.cell hr (i := j + 1) (by omega)
  simp only [show ¬ (j + 1 = j) by omega, if_false] at h1
  rw [h1, ← h2, s6]

/-- What a round leaves. -/
def FbP (x : Int) (b : List Int) (h g m c1 c2 B n₀ Bs : Nat) (G F : Nat → Int) (w : World) (pre : List (AtI b)) (W W' : World) : Prop :=
  KeepsFrom B W W' ∧ KpB n₀ Bs W W' ∧ FbI x b h g m c1 c2 G F w pre W'
theorem fbP_step {x : Int} {b : List Int} {h g m c1 c2 B n₀ : Nat} {G F : Nat → Int} {w W : World} {pre : List (AtI b)} (hI : FbI x b h g m c1 c2 G F w pre W) {j : Nat} {y v : Int} (hx : b[j]? = some y) (hgh : g ≠ h) (hg0 : n₀ ≤ g) (hgw : g < w.heap.size)
    (hv : v = stepB x G ((pre.map Subtype.val).foldl (stepB x G) F) (j, y) j) : FbP x b h g m c1 c2 B n₀ (w.heap.size + 1 + 1 + 1) G F w (pre ++ [⟨(j, y), hx⟩]) W (W.setCell ⟨g, j, none⟩ (.int .i64 v)) := by
  obtain ⟨h1, h2, h3, h4, h5, h6⟩ := hI
  refine ⟨(KeepsOthers.setCell _ _ _).from _, ⟨(Below.refl _ _).setCell hg0 _, Below.heap_setCell _ _ _ _ (by show _ ≠ g; omega)⟩, ?_, World.rowIs.setOther h2 (by show h ≠ g; exact fun e => hgh e.symm) _, ?_, ?_, ?_, grown_set h6 _ _⟩
  · refine World.rowIs.congr (World.rowIs.set h1 j _) fun i _ => ?_
    simp only [List.map_append, List.map_cons, List.map_nil, List.foldl_append, List.foldl_cons, List.foldl_nil]
    by_cases e : i = j
    · subst e
      rw [if_pos rfl, hv]
    · rw [if_neg e]
      congr 1
      exact (if_neg e).symm
  · exact (Below.heap_setCell W _ _ _ (by show _ ≠ g; omega)).trans h3
  · exact (Below.heap_setCell W _ _ _ (by show _ ≠ g; omega)).trans h4
  · exact (Below.heap_setCell W _ _ _ (by show _ ≠ g; omega)).trans h5
theorem FbP.drew {x : Int} {b : List Int} {h g m c1 c2 B n₀ Bs : Nat} {G F : Nat → Int} {w W W' : World} {pre : List (AtI b)} (hI : FbP x b h g m c1 c2 B n₀ Bs G F w pre W W') : FbP x b h g m c1 c2 B n₀ Bs G F w pre W W'.drew :=
  ⟨⟨hI.1.1, hI.1.2⟩, ⟨hI.2.1.1.drew, hI.2.1.2⟩, hI.2.2.1, hI.2.2.2.1, hI.2.2.2.2.1, hI.2.2.2.2.2.1, hI.2.2.2.2.2.2.1, grown_drew hI.2.2.2.2.2.2.2⟩

end Go.Proofs.Ytmhnciljbdflcaa

namespace Go.Proofs.Ytmhnciljbdflcaa
open Go.RowKit Go.Shelf

theorem boxed_keptO {W W' : World} {b : Nat} {t : TypeId} {v : Value} {row : Option Nat} (h : Boxed W b t v) (hg : W.grownBy W' row) (hrow : ∀ r, row = some r → ∃ o : Obj, W.heap[r]? = some o ∧ o.isCells = false) : Boxed W' b t v := h.kept hg (fun e => by
  obtain ⟨o, ho, hc⟩ := hrow _ e.symm
  rw [show W.heap[_]? = _ from h] at ho
  cases ho
  cases hc)
theorem boxed_ne {W : World} {z g n : Nat} {t t' : TypeId} {v : Value} {f : Nat → Value} (h : Boxed W z t v) (hr : W.rowIs g t' n f) (ht : t ≠ t') : z ≠ g := by
  rintro rfl
  obtain ⟨c, hc, _⟩ := hr
  rw [show W.heap[z]? = _ from h] at hc
  simp only [Option.some.injEq, Obj.cells.injEq] at hc
  exact ht hc.2.1
/-- What the two new rows and their variables are. -/
def TnTwo (m s : Nat) (w3 : World) (g h z6 z7 : Nat) (W : World) : Prop :=
  IsRow W g (m + 1) (fun _ => 0) ∧ IsRow W h (m + 1) (fun _ => 0) ∧ Boxed W z6 25 (.slice (some ⟨g, 0, none⟩) (m + 1) (m + 1)) ∧ Boxed W z7 25 (.slice (some ⟨h, 0, none⟩) (m + 1) (m + 1)) ∧ (g ≠ h ∧ z6 ≠ z7 ∧ s ≤ g ∧ s ≤ h ∧ s ≤ z6 ∧ s ≤ z7 ∧ g < s + 4 ∧ h < s + 4 ∧ z6 < s + 4 ∧ z7 < s + 4) ∧ Below s w3 W ∧ W.heap.size = s + 4
theorem four (w3 : World) (s : Nat) (hs : w3.heap.size = s) (o0 o1 o2 o3 : Obj) : let W := ((((w3.alloc o0).alloc o1).alloc o2).alloc o3).drew
    W.heap[s]? = some o0 ∧ W.heap[s + 1]? = some o1 ∧ W.heap[s + 1 + 1]? = some o2 ∧ W.heap[s + 1 + 1 + 1]? = some o3 ∧ Below s w3 W ∧ W.heap.size = s + 4 := by
  subst hs
  have e1 := World.alloc_heap_new w3 o0
  have e2 := World.alloc_heap_new (w3.alloc o0) o1
  have e3 := World.alloc_heap_new ((w3.alloc o0).alloc o1) o2
  have e4 := World.alloc_heap_new (((w3.alloc o0).alloc o1).alloc o2) o3
  simp only [World.size_alloc] at e2 e3 e4
  refine ⟨?_, ?_, ?_, e4, ((((Below.refl _ _).alloc (Nat.le_refl _) _).alloc (by simp) _).alloc (by simp; omega) _).alloc (by simp; omega) _ |>.drew, by simp⟩
  · exact (Below.heap_alloc _ _ _ (by simp <;> omega)).trans ((Below.heap_alloc _ _ _ (by simp <;> omega)).trans ((Below.heap_alloc _ _ _ (by simp)).trans e1))
  · exact (Below.heap_alloc _ _ _ (by simp <;> omega)).trans ((Below.heap_alloc _ _ _ (by simp)).trans e2)
  · exact (Below.heap_alloc _ _ _ (by simp)).trans e3
theorem row_zero {W : World} {g m : Nat} (h : W.heap[g]? = some (.cells (madeCells #[.int .i64 0] (m + 1)) 3)) : IsRow W g (m + 1) (fun _ => 0) :=
  ⟨_, h, size_madeCells _ _, fun i hi => by simp [madeCells, hi, Nat.mod_one]⟩

theorem tn_two {m s g h z6 z7 : Nat} {w3 : World} {o0 o1 o2 o3 : Obj} (hs : w3.heap.size = s)
    (eg : (g = s ∧ o0 = .cells (madeCells #[.int .i64 0] (m + 1)) 3) ∨ (g = s + 1 ∧ o1 = .cells (madeCells #[.int .i64 0] (m + 1)) 3) ∨ (g = s + 1 + 1 ∧ o2 = .cells (madeCells #[.int .i64 0] (m + 1)) 3) ∨ (g = s + 1 + 1 + 1 ∧ o3 = .cells (madeCells #[.int .i64 0] (m + 1)) 3))
    (eh : (h = s ∧ o0 = .cells (madeCells #[.int .i64 0] (m + 1)) 3) ∨ (h = s + 1 ∧ o1 = .cells (madeCells #[.int .i64 0] (m + 1)) 3) ∨ (h = s + 1 + 1 ∧ o2 = .cells (madeCells #[.int .i64 0] (m + 1)) 3) ∨ (h = s + 1 + 1 + 1 ∧ o3 = .cells (madeCells #[.int .i64 0] (m + 1)) 3))
    (e6 : (z6 = s ∧ o0 = .cells #[.slice (some ⟨g, 0, none⟩) (m + 1) (m + 1)] 25) ∨ (z6 = s + 1 ∧ o1 = .cells #[.slice (some ⟨g, 0, none⟩) (m + 1) (m + 1)] 25) ∨ (z6 = s + 1 + 1 ∧ o2 = .cells #[.slice (some ⟨g, 0, none⟩) (m + 1) (m + 1)] 25) ∨ (z6 = s + 1 + 1 + 1 ∧ o3 = .cells #[.slice (some ⟨g, 0, none⟩) (m + 1) (m + 1)] 25))
    (e7 : (z7 = s ∧ o0 = .cells #[.slice (some ⟨h, 0, none⟩) (m + 1) (m + 1)] 25) ∨ (z7 = s + 1 ∧ o1 = .cells #[.slice (some ⟨h, 0, none⟩) (m + 1) (m + 1)] 25) ∨ (z7 = s + 1 + 1 ∧ o2 = .cells #[.slice (some ⟨h, 0, none⟩) (m + 1) (m + 1)] 25) ∨ (z7 = s + 1 + 1 + 1 ∧ o3 = .cells #[.slice (some ⟨h, 0, none⟩) (m + 1) (m + 1)] 25))
    (hne : g ≠ h ∧ z6 ≠ z7) : TnTwo m s w3 g h z6 z7 ((((w3.alloc o0).alloc o1).alloc o2).alloc o3).drew := by
  obtain ⟨f0, f1, f2, f3, f4, f5⟩ := four w3 s hs o0 o1 o2 o3
  have key : ∀ {z : Nat} {o : Obj}, (z = s ∧ o0 = o) ∨ (z = s + 1 ∧ o1 = o) ∨ (z = s + 1 + 1 ∧ o2 = o) ∨ (z = s + 1 + 1 + 1 ∧ o3 = o) → (((((w3.alloc o0).alloc o1).alloc o2).alloc o3).drew).heap[z]? = some o ∧ s ≤ z ∧ z < s + 4 := by
    rintro z o (⟨rfl, rfl⟩ | ⟨rfl, rfl⟩ | ⟨rfl, rfl⟩ | ⟨rfl, rfl⟩)
    · exact ⟨f0, by omega, by omega⟩
    · exact ⟨f1, by omega, by omega⟩
    · exact ⟨f2, by omega, by omega⟩
    · exact ⟨f3, by omega, by omega⟩
  have kg := key eg
  have kh := key eh
  have k6 := key e6
  have k7 := key e7
  exact ⟨row_zero kg.1, row_zero kh.1, k6.1, k7.1, ⟨hne.1, hne.2, kg.2.1, kh.2.1, k6.2.1, k7.2.1, kg.2.2, kh.2.2, k6.2.2, k7.2.2⟩, f4, f5⟩


end Go.Proofs.Ytmhnciljbdflcaa
