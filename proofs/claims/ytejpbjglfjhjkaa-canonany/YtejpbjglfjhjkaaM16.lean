/-
  Words and contracts that the proof leans on.
-/
import Derived.Test.YtejpbjglfjhjkaaM15
import Derived.Test.YtejpbjglfjhjkaaM13
import Derived.Laws.Rows
import Derived.Test.YtejpbjglfjhjkaaM4
namespace Go.Proofs.Ytejpbjglfjhjkaa
open Go.RowKit Go.Shelf
attribute [local go_sem] Oper.semAt_some

theorem Try.infoCell : (Try.prog.info? 51).map (fun i => (i.zero, i.size, i.bytes)) = some (some (.agg #[.int .i64 0, .int .i64 0]), 2, 16) := by kernel_rfl

theorem cells_made (w : World) (n : Nat) : IsCells (w.alloc (.cells (madeCells #[.int .i64 0, .int .i64 0] (n * 2)) 51)) w.heap.size n (fun _ => (0, 0)) := by
  have h : (madeCells #[Value.int .i64 0, .int .i64 0] (n * 2)).size = n * 2 := by simp [size_madeCells]
  have := World.rowIs_alloc w (madeCells #[.int .i64 0, .int .i64 0] (n * 2)) 51 (cv fun _ => (0, 0)) (fun i hi => by
    rw [h] at hi
    unfold madeCells cv
    have : i % 2 = 0 ∨ i % 2 = 1 := by omega
    rcases this with e | e <;> simp [e, hi])
  rw [h] at this
  exact this
theorem sw_make (m : Nat) (hm : m ≤ 1048576) (w : World) : (Instr.makeSlice 53 (.int .i64 ((m : Int) + 1)) (.int .i64 ((m : Int) + 1))).run Try.prog w = .ok (.slice (some ⟨w.heap.size, 0, none⟩) (m + 1) (m + 1)) (w.alloc (.cells (madeCells #[.int .i64 0, .int .i64 0] ((m + 1) * 2)) 51)) := by
  obtain ⟨i0, hi, hz0, hz1, hz2⟩ := info_parts Try.infoCell
  have hr := run_make (P := Try.prog) w 53 51 i0 _ Try.underlying53 hi hz0 .i64 .i64 ((m : Int) + 1) ((m : Int) + 1) (by omega) (Int.le_refl _) (by rw [hz2]; omega) (by omega)
  rw [show ((m : Int) + 1).toNat = m + 1 by omega, hz1] at hr
  exact hr

theorem Box2.block {w : World} {P : Nat} {x y : Int} (h : Box2 w P (x, y)) : w.heap[P]? = some (.cells #[.int .i64 x, .int .i64 y] 51 (0, 0)) := by
  obtain ⟨c, hc, h1, h2⟩ := h
  rw [hc]
  congr 2
  apply Array.ext_getElem?
  intro i
  by_cases hi : i < 1 * 2
  · rw [h2 i hi]
    have : i = 0 ∨ i = 1 := by omega
    rcases this with rfl | rfl <;> rfl
  · rw [Array.getElem?_eq_none (by omega), Array.getElem?_eq_none (by simp; omega)]
theorem Try.sizeCell : (Try.prog.info? 51).map (·.size) = some 2 := by kernel_rfl
theorem boxK {W W' : World} {b : Nat} {t : TypeId} {v : Value} {row : Option Nat} (h : Boxed W b t v) (hg : W.grownBy W' row) (hrow : ∀ r, row = some r → ∃ o : Obj, W.heap[r]? = some o ∧ o.isCells = false) : Boxed W' b t v := h.kept hg (fun e => by
  obtain ⟨o, ho, hc⟩ := hrow _ e.symm
  rw [show W.heap[_]? = _ from h] at ho
  cases ho
  cases hc)
/-- The variables that the loop uses. -/
def SwB (B : Option Addr) (m d cut spare e f zb zc zr zd zt zg zx : Nat) (W : World) : Prop :=
  Boxed W zb 26 (.slice B m d) ∧ Boxed W zc 3 (.int .i64 (cut : Int)) ∧ Boxed W zd 3 (.int .i64 ((spare : Int) + (e : Int))) ∧ Boxed W zt 3 (.int .i64 ((spare : Int) + (f : Int))) ∧ Boxed W zx 53 (.slice (some ⟨zg, 0, none⟩) (m + 1) (m + 1)) ∧ Box2 W zr (0, 0)
def SwZ (w : World) (zb zc zr zd zt zg zx zs : Nat) : Prop := w.heap.size ≤ zb ∧ zb < zc ∧ zc < zr ∧ zr < zd ∧ zd < zt ∧ zt < zg ∧ zg < zx ∧ zx < zs
theorem SwB.grown {B : Option Addr} {m d cut spare e f zb zc zr zd zt zg zx zs : Nat} {w W W' : World} (h : SwB B m d cut spare e f zb zc zr zd zt zg zx W) (Z : SwZ w zb zc zr zd zt zg zx zs) (hg : W.grownBy W' (some zg)) : SwB B m d cut spare e f zb zc zr zd zt zg zx W' := by
  obtain ⟨h1, h2, h3, h4, h5, h6⟩ := h
  obtain ⟨y0, y1, y2, y3, y4, y5, y6, y7⟩ := Z
  exact ⟨h1.kept hg (fun e => by injection e; omega), h2.kept hg (fun e => by injection e; omega), h3.kept hg (fun e => by injection e; omega), h4.kept hg (fun e => by injection e; omega), h5.kept hg (fun e => by injection e; omega), rowIs_grown h6 hg (fun e => by injection e; omega)⟩
/-- What holds between two rounds. -/
def SwI (a b : List Int) (B : Option Addr) (m d cut spare e f zb zc zr zd zt zg zx zs : Nat) (w : World) (pre : List (AtI a)) (W : World) : Prop :=
  SwB B m d cut spare e f zb zc zr zd zt zg zx W ∧ IsCells W zg (m + 1) (swp b cut (spare + e) (spare + f) (pre.map Subtype.val)) ∧ Below w.heap.size w W ∧ zs < W.heap.size
theorem swI_own {a b : List Int} {B : Option Addr} {m d cut spare e f zb zc zr zd zt zg zx zs : Nat} {w : World} {B0 : Nat} (hB : w.heap.size ≤ B0) : OwnFrom B0 (SwI a b B m d cut spare e f zb zc zr zd zt zg zx zs w) := by
  rintro pre W W' row ⟨⟨h1, h2, h3, h4, h5, h6⟩, k1, k2, k3⟩ hg hr
  have hr' : ∀ r, row = some r → ∃ o : Obj, W.heap[r]? = some o ∧ o.isCells = false := fun r e => (hr r e).2
  exact ⟨⟨boxK h1 hg hr', boxK h2 hg hr', boxK h3 hg hr', boxK h4 hg hr', boxK h5 hg hr', rowIs_kept h6 hg hr'⟩, rowIs_kept k1 hg hr', k2.grown hg k2.size (fun r e => Nat.le_trans hB (hr r e).1), Nat.lt_of_lt_of_le k3 hg.size⟩
/-- Inside a round: the cells are D. -/
def SwMLsW (B : Option Addr) (m d cut spare e f zb zc zr zd zt zg zx zs : Nat) (w W : World) (D : Nat → Pr) (wr : World) : Prop :=
  SwB B m d cut spare e f zb zc zr zd zt zg zx wr ∧ IsCells wr zg (m + 1) D ∧ Below w.heap.size w wr ∧ zs < wr.heap.size ∧ KeepsFrom (zs + 1) W wr ∧ KpB w.heap.size zs W wr
theorem SwMLsW.grown {B : Option Addr} {m d cut spare e f zb zc zr zd zt zg zx zs : Nat} {w W wr wr' : World} {D D' : Nat → Pr} (h : SwMLsW B m d cut spare e f zb zc zr zd zt zg zx zs w W D wr) (Z : SwZ w zb zc zr zd zt zg zx zs) (hg : wr.grownBy wr' (some zg)) (hD : IsCells wr' zg (m + 1) D') : SwMLsW B m d cut spare e f zb zc zr zd zt zg zx zs w W D' wr' := by
  obtain ⟨h1, h2, h3, h4, h5, h6⟩ := h
  have y := Z
  obtain ⟨y0, y1, y2, y3, y4, y5, y6, y7⟩ := y
  refine ⟨h1.grown Z hg, hD, h3.grown hg h3.size (fun r e => by cases e; omega), Nat.lt_of_lt_of_le h4 hg.size, h5.trans (KeepsFrom.of_grownBy hg (fun j e => by cases e; omega)), h6.1.trans ((Below.refl _ _).grown hg h3.size (fun r e => by cases e; omega)), ?_⟩
  rw [hg.block zs h4 (fun e => by injection e; omega)]
  exact h6.2
theorem SwMLsW.start {a b : List Int} {B : Option Addr} {m d cut spare e f zb zc zr zd zt zg zx zs : Nat} {w W : World} {pre : List (AtI a)} (h : SwI a b B m d cut spare e f zb zc zr zd zt zg zx zs w pre W) : SwMLsW B m d cut spare e f zb zc zr zd zt zg zx zs w W (swp b cut (spare + e) (spare + f) (pre.map Subtype.val)) W :=
  ⟨h.1, h.2.1, h.2.2.1, h.2.2.2, KeepsFrom.refl _ _, Below.refl _ _, rfl⟩
theorem SwMLsW.done {a b : List Int} {B : Option Addr} {m d cut spare e f zb zc zr zd zt zg zx zs i : Nat} {x : Int} {w W wr : World} {pre : List (AtI a)} {C D : Nat → Pr} (hm : b.length = m) (hx : a[i]? = some x) (hC : swp b cut (spare + e) (spare + f) (pre.map Subtype.val) = C) (hD : (if i + 1 = cut then rst C else C) = D)
    (h : SwMLsW B m d cut spare e f zb zc zr zd zt zg zx zs w W (rowT x b D (min (i + (spare + f) + 1) m) (min (i + (spare + f) + 1) m - (i - (spare + e)))) wr) : KeepsFrom (zs + 1) W wr ∧ KpB w.heap.size zs W wr ∧ SwI a b B m d cut spare e f zb zc zr zd zt zg zx zs w (pre ++ [⟨(i, x), hx⟩]) wr := by
  obtain ⟨h1, h2, h3, h4, h5, h6⟩ := h
  refine ⟨h5, h6, h1, ?_, h3, h4⟩
  have es : swp b cut (spare + e) (spare + f) ((pre ++ [(⟨(i, x), hx⟩ : AtI a)]).map Subtype.val) = rowT x b D (min (i + (spare + f) + 1) m) (min (i + (spare + f) + 1) m - (i - (spare + e))) := by
    unfold swp at hC ⊢
    simp only [List.map_append, List.map_cons, List.map_nil, List.foldl_append, List.foldl_cons, List.foldl_nil]
    rw [hC]
    unfold stp
    simp only
    rw [hD, hm]
  rw [es]
  exact h2
/-- The cells when k splits are set. -/
def rstK (C : Nat → Pr) (k : Nat) : Nat → Pr := fun c => if c < k then ((C c).1, (c : Int)) else C c
theorem rstK_set {m zg k : Nat} {C : Nat → Pr} {wr : World} (h : IsCells wr zg (m + 1) (rstK C k)) : IsCells (wr.setCell ⟨zg, k * 2 + 1, none⟩ (.int .i64 (k : Int))) zg (m + 1) (rstK C (k + 1)) := by
  refine (h.setS (j := k) (k : Int)).congr fun c _ => ?_
  unfold rstK
  by_cases e : c = k
  · subst e
    simp only [if_true, Nat.lt_irrefl, if_false, Nat.lt_succ_self]
  · by_cases g : c < k
    · simp only [if_neg e, if_pos g, if_pos (show c < k + 1 by omega)]
    · simp only [if_neg e, if_neg g, if_neg (show ¬ c < k + 1 by omega)]
theorem rstK_zero (C : Nat → Pr) : rstK C 0 = C := by
  funext c
  unfold rstK
  rw [if_neg (by omega)]
theorem rstK_all {C : Nat → Pr} {m : Nat} (c : Nat) (hc : c < m) : rstK C m c = rst C c := if_pos hc

theorem sw_start (a b : List Int) (A B : Option Addr) (n m c d cut spare e f : Nat) (w : World) :
    SwI a b B m d cut spare e f w.heap.size (w.heap.size + 1) (w.heap.size + 1 + 1) (w.heap.size + 1 + 1 + 1) (w.heap.size + 1 + 1 + 1 + 1) (w.heap.size + 1 + 1 + 1 + 1 + 1) (w.heap.size + 1 + 1 + 1 + 1 + 1 + 1) (w.heap.size + 1 + 1 + 1 + 1 + 1 + 1 + 1) w [] ((((((((w.alloc (.cells #[.slice B m d] 26)).alloc (.cells #[.int .i64 (cut : Int)] 3)).alloc (.cells #[.int .i64 0, .int .i64 0] 51)).alloc (.cells #[.int .i64 ((spare : Int) + (e : Int))] 3)).alloc (.cells #[.int .i64 ((spare : Int) + (f : Int))] 3)).alloc (.cells (madeCells #[.int .i64 0, .int .i64 0] ((m + 1) * 2)) 51)).alloc (.cells #[.slice (some ⟨w.heap.size + 1 + 1 + 1 + 1 + 1, 0, none⟩) (m + 1) (m + 1)] 53)).alloc (.cells #[.slice A n c] 26)) ∧
    Boxed ((((((((w.alloc (.cells #[.slice B m d] 26)).alloc (.cells #[.int .i64 (cut : Int)] 3)).alloc (.cells #[.int .i64 0, .int .i64 0] 51)).alloc (.cells #[.int .i64 ((spare : Int) + (e : Int))] 3)).alloc (.cells #[.int .i64 ((spare : Int) + (f : Int))] 3)).alloc (.cells (madeCells #[.int .i64 0, .int .i64 0] ((m + 1) * 2)) 51)).alloc (.cells #[.slice (some ⟨w.heap.size + 1 + 1 + 1 + 1 + 1, 0, none⟩) (m + 1) (m + 1)] 53)).alloc (.cells #[.slice A n c] 26)) (w.heap.size + 1 + 1 + 1 + 1 + 1 + 1 + 1) 26 (.slice A n c) ∧ ((((((((w.alloc (.cells #[.slice B m d] 26)).alloc (.cells #[.int .i64 (cut : Int)] 3)).alloc (.cells #[.int .i64 0, .int .i64 0] 51)).alloc (.cells #[.int .i64 ((spare : Int) + (e : Int))] 3)).alloc (.cells #[.int .i64 ((spare : Int) + (f : Int))] 3)).alloc (.cells (madeCells #[.int .i64 0, .int .i64 0] ((m + 1) * 2)) 51)).alloc (.cells #[.slice (some ⟨w.heap.size + 1 + 1 + 1 + 1 + 1, 0, none⟩) (m + 1) (m + 1)] 53)).alloc (.cells #[.slice A n c] 26)).heap.size = w.heap.size + 1 + 1 + 1 + 1 + 1 + 1 + 1 + 1 ∧ Below w.heap.size w ((((((((w.alloc (.cells #[.slice B m d] 26)).alloc (.cells #[.int .i64 (cut : Int)] 3)).alloc (.cells #[.int .i64 0, .int .i64 0] 51)).alloc (.cells #[.int .i64 ((spare : Int) + (e : Int))] 3)).alloc (.cells #[.int .i64 ((spare : Int) + (f : Int))] 3)).alloc (.cells (madeCells #[.int .i64 0, .int .i64 0] ((m + 1) * 2)) 51)).alloc (.cells #[.slice (some ⟨w.heap.size + 1 + 1 + 1 + 1 + 1, 0, none⟩) (m + 1) (m + 1)] 53)).alloc (.cells #[.slice A n c] 26)) := by
  have hB0 := Below.refl w.heap.size w
  have hs0 : w.heap.size = w.heap.size := rfl
  have b1 := Boxed.new w 26 (.slice B m d)
  have hB1 := hB0.alloc (Nat.le_refl _) (.cells #[.slice B m d] 26)
  have hs1 : (w.alloc (.cells #[.slice B m d] 26)).heap.size = w.heap.size + 1 := by simp
  generalize w.alloc (.cells #[.slice B m d] 26) = w1 at *
  have b2 := Boxed.new w1 3 (.int .i64 (cut : Int))
  have hB2 := hB1.alloc (by omega) (.cells #[.int .i64 (cut : Int)] 3)
  have hs2 : (w1.alloc (.cells #[.int .i64 (cut : Int)] 3)).heap.size = w.heap.size + 1 + 1 := by simp [hs1]
  replace b1 := b1.alloc (.cells #[.int .i64 (cut : Int)] 3)
  generalize w1.alloc (.cells #[.int .i64 (cut : Int)] 3) = w2 at *
  have b3 := box_new w2 0 0
  have hB3 := hB2.alloc (by omega) (.cells #[.int .i64 0, .int .i64 0] 51)
  have hs3 : (w2.alloc (.cells #[.int .i64 0, .int .i64 0] 51)).heap.size = w.heap.size + 1 + 1 + 1 := by simp [hs2]
  replace b1 := b1.alloc (.cells #[.int .i64 0, .int .i64 0] 51)
  replace b2 := b2.alloc (.cells #[.int .i64 0, .int .i64 0] 51)
  generalize w2.alloc (.cells #[.int .i64 0, .int .i64 0] 51) = w3 at *
  have b4 := Boxed.new w3 3 (.int .i64 ((spare : Int) + (e : Int)))
  have hB4 := hB3.alloc (by omega) (.cells #[.int .i64 ((spare : Int) + (e : Int))] 3)
  have hs4 : (w3.alloc (.cells #[.int .i64 ((spare : Int) + (e : Int))] 3)).heap.size = w.heap.size + 1 + 1 + 1 + 1 := by simp [hs3]
  replace b1 := b1.alloc (.cells #[.int .i64 ((spare : Int) + (e : Int))] 3)
  replace b2 := b2.alloc (.cells #[.int .i64 ((spare : Int) + (e : Int))] 3)
  replace b3 := IsCells.alloc b3 (.cells #[.int .i64 ((spare : Int) + (e : Int))] 3)
  generalize w3.alloc (.cells #[.int .i64 ((spare : Int) + (e : Int))] 3) = w4 at *
  have b5 := Boxed.new w4 3 (.int .i64 ((spare : Int) + (f : Int)))
  have hB5 := hB4.alloc (by omega) (.cells #[.int .i64 ((spare : Int) + (f : Int))] 3)
  have hs5 : (w4.alloc (.cells #[.int .i64 ((spare : Int) + (f : Int))] 3)).heap.size = w.heap.size + 1 + 1 + 1 + 1 + 1 := by simp [hs4]
  replace b1 := b1.alloc (.cells #[.int .i64 ((spare : Int) + (f : Int))] 3)
  replace b2 := b2.alloc (.cells #[.int .i64 ((spare : Int) + (f : Int))] 3)
  replace b3 := IsCells.alloc b3 (.cells #[.int .i64 ((spare : Int) + (f : Int))] 3)
  replace b4 := b4.alloc (.cells #[.int .i64 ((spare : Int) + (f : Int))] 3)
  generalize w4.alloc (.cells #[.int .i64 ((spare : Int) + (f : Int))] 3) = w5 at *
  have b6 := cells_made w5 (m + 1)
  have hB6 := hB5.alloc (by omega) (.cells (madeCells #[.int .i64 0, .int .i64 0] ((m + 1) * 2)) 51)
  have hs6 : (w5.alloc (.cells (madeCells #[.int .i64 0, .int .i64 0] ((m + 1) * 2)) 51)).heap.size = w.heap.size + 1 + 1 + 1 + 1 + 1 + 1 := by simp [hs5]
  replace b1 := b1.alloc (.cells (madeCells #[.int .i64 0, .int .i64 0] ((m + 1) * 2)) 51)
  replace b2 := b2.alloc (.cells (madeCells #[.int .i64 0, .int .i64 0] ((m + 1) * 2)) 51)
  replace b3 := IsCells.alloc b3 (.cells (madeCells #[.int .i64 0, .int .i64 0] ((m + 1) * 2)) 51)
  replace b4 := b4.alloc (.cells (madeCells #[.int .i64 0, .int .i64 0] ((m + 1) * 2)) 51)
  replace b5 := b5.alloc (.cells (madeCells #[.int .i64 0, .int .i64 0] ((m + 1) * 2)) 51)
  generalize w5.alloc (.cells (madeCells #[.int .i64 0, .int .i64 0] ((m + 1) * 2)) 51) = w6 at *
  have b7 := Boxed.new w6 53 (.slice (some ⟨w.heap.size + 1 + 1 + 1 + 1 + 1, 0, none⟩) (m + 1) (m + 1))
  have hB7 := hB6.alloc (by omega) (.cells #[.slice (some ⟨w.heap.size + 1 + 1 + 1 + 1 + 1, 0, none⟩) (m + 1) (m + 1)] 53)
  have hs7 : (w6.alloc (.cells #[.slice (some ⟨w.heap.size + 1 + 1 + 1 + 1 + 1, 0, none⟩) (m + 1) (m + 1)] 53)).heap.size = w.heap.size + 1 + 1 + 1 + 1 + 1 + 1 + 1 := by simp [hs6]
  replace b1 := b1.alloc (.cells #[.slice (some ⟨w.heap.size + 1 + 1 + 1 + 1 + 1, 0, none⟩) (m + 1) (m + 1)] 53)
  replace b2 := b2.alloc (.cells #[.slice (some ⟨w.heap.size + 1 + 1 + 1 + 1 + 1, 0, none⟩) (m + 1) (m + 1)] 53)
  replace b3 := IsCells.alloc b3 (.cells #[.slice (some ⟨w.heap.size + 1 + 1 + 1 + 1 + 1, 0, none⟩) (m + 1) (m + 1)] 53)
  replace b4 := b4.alloc (.cells #[.slice (some ⟨w.heap.size + 1 + 1 + 1 + 1 + 1, 0, none⟩) (m + 1) (m + 1)] 53)
  replace b5 := b5.alloc (.cells #[.slice (some ⟨w.heap.size + 1 + 1 + 1 + 1 + 1, 0, none⟩) (m + 1) (m + 1)] 53)
  replace b6 := IsCells.alloc b6 (.cells #[.slice (some ⟨w.heap.size + 1 + 1 + 1 + 1 + 1, 0, none⟩) (m + 1) (m + 1)] 53)
  generalize w6.alloc (.cells #[.slice (some ⟨w.heap.size + 1 + 1 + 1 + 1 + 1, 0, none⟩) (m + 1) (m + 1)] 53) = w7 at *
  have b8 := Boxed.new w7 26 (.slice A n c)
  have hB8 := hB7.alloc (by omega) (.cells #[.slice A n c] 26)
  have hs8 : (w7.alloc (.cells #[.slice A n c] 26)).heap.size = w.heap.size + 1 + 1 + 1 + 1 + 1 + 1 + 1 + 1 := by simp [hs7]
  rw [hs1] at b2
  rw [hs2] at b3
  rw [hs3] at b4
  rw [hs4] at b5
  rw [hs5] at b6
  rw [hs6] at b7
  rw [hs7] at b8
  exact ⟨⟨⟨b1.alloc _, b2.alloc _, b4.alloc _, b5.alloc _, b7.alloc _, IsCells.alloc b3 _⟩, IsCells.alloc b6 _, hB8, by omega⟩, b8, hs8, hB8⟩

set_option maxRecDepth 100000 in
set_option maxHeartbeats 3200000 in
theorem sweep_anyLsW (A B : Option Addr) (n m c d cut spare : Nat) (a b : List Int) (w : World) (hn : a.length = n) (hm : b.length = m) (hb : n ≤ 1048576) (hb' : m ≤ 1048576) (hs : spare ≤ 4194304) (hcut : cut ≤ n) (hcut0 : 0 < cut) (h1 : Row w A (iv a)) (h2 : Row w B (iv b)) :
    Calls Try.prog 37 #[.slice A n c, .slice B m d, .int .i64 (cut : Int), .int .i64 (spare : Int)] w fun e w' => e = .returned (.agg #[.int .i64 (swp b cut (spare + (n - m)) (spare + (m - n)) (backs a n) 0).1, .int .i64 (swp b cut (spare + (n - m)) (spare + (m - n)) (backs a n) 0).2]) ∧ Below w.heap.size w w' := by
  have HN := Lib.hid hn
  have HM := Lib.hid hm
  clear hn hm
  have hmk := sw_make m hb'
  refine (callsIn_wide (n := 3)).1 ?_
  refine callsIn_of_wp_marks Try.func37 rfl trivial ?_ rfl
  simp only [Try.ntmps37, List.size_toArray, List.length_cons, List.length_nil, Nat.reduceAdd, Nat.reduceSub, Array.replicate_succ, Array.replicate_zero, List.push_toArray, List.append_toArray, List.nil_append, List.cons_append]
  obtain ⟨e, he⟩ : ∃ e, n - m = e := ⟨_, rfl⟩
  obtain ⟨f, hf⟩ : ∃ f, m - n = f := ⟨_, rfl⟩
  have x1 : (if (n : Int) - (m : Int) < 0 then 0 else (n : Int) - (m : Int)) = (e : Int) := by split <;> omega
  have x2 : (if (m : Int) - (n : Int) < 0 then 0 else (m : Int) - (n : Int)) = (f : Int) := by split <;> omega
  rw [he, hf]
  have be : e ≤ 1048576 := by omega
  have bf : f ≤ 1048576 := by omega
  have HE := Lib.hid he
  have HF := Lib.hid hf
  clear he hf
  gi_wp2_with (refine ⟨trivial, ?_⟩; gi_at_call 38; refine (back_in _ _ _ _ _).mono ?_; rintro e w' ⟨rfl, rfl⟩)
  have Z : SwZ w w.heap.size (w.heap.size + 1) (w.heap.size + 1 + 1) (w.heap.size + 1 + 1 + 1) (w.heap.size + 1 + 1 + 1 + 1) (w.heap.size + 1 + 1 + 1 + 1 + 1) (w.heap.size + 1 + 1 + 1 + 1 + 1 + 1) (w.heap.size + 1 + 1 + 1 + 1 + 1 + 1 + 1) := by unfold SwZ; omega
  obtain ⟨HI, bN, hlz, hBl⟩ := sw_start a b A B n m c d cut spare e f w
  generalize ((((((((w.alloc (.cells #[.slice B m d] 26)).alloc (.cells #[.int .i64 (cut : Int)] 3)).alloc (.cells #[.int .i64 0, .int .i64 0] 51)).alloc (.cells #[.int .i64 ((spare : Int) + (e : Int))] 3)).alloc (.cells #[.int .i64 ((spare : Int) + (f : Int))] 3)).alloc (.cells (madeCells #[.int .i64 0, .int .i64 0] ((m + 1) * 2)) 51)).alloc (.cells #[.slice (some ⟨w.heap.size + 1 + 1 + 1 + 1 + 1, 0, none⟩) (m + 1) (m + 1)] 53)).alloc (.cells #[.slice A n c] 26)) = wl at *
  clear hmk x1 x2
  refine wpIn_rangeFunc_ownG rfl (by omega) (gf := 40) (lb := #[.pointer (some ⟨w.heap.size + 1 + 1 + 1 + 1 + 1 + 1 + 1, 0, none⟩)]) rfl trivial (enters_of Try.func40 (by kernel_rfl) rfl)
    (back_stops _ (by omega) (w.heap.size + 1 + 1 + 1 + 1 + 1 + 1 + 1) A n c a w wl HN.out hb h1 hBl bN) kpB_t (kpB_b (by omega) (by omega)) (Below.refl _ _) (fun _ => rfl)
    (SwI a b B m d cut spare e f w.heap.size (w.heap.size + 1) (w.heap.size + 1 + 1) (w.heap.size + 1 + 1 + 1) (w.heap.size + 1 + 1 + 1 + 1) (w.heap.size + 1 + 1 + 1 + 1 + 1) (w.heap.size + 1 + 1 + 1 + 1 + 1 + 1) (w.heap.size + 1 + 1 + 1 + 1 + 1 + 1 + 1) w) (fun _ _ _ => False) (swI_own (by omega)) (fun _ _ _ _ _ hs _ _ => hs) HI
    (fun p => { tmps := #[.slice A n c, .slice B m d, .int .i64 (cut : Int), .int .i64 (spare : Int), undef, .pointer (some ⟨w.heap.size, 0, none⟩), .pointer (some ⟨w.heap.size + 1, 0, none⟩), undef, .pointer (some ⟨w.heap.size + 1 + 1, 0, none⟩), .pointer (some ⟨w.heap.size + 1 + 1 + 1, 0, none⟩), .pointer (some ⟨w.heap.size + 1 + 1 + 1 + 1, 0, none⟩), .pointer (some ⟨w.heap.size + 1 + 1 + 1 + 1 + 1 + 1, 0, none⟩), .int .i64 (p.1.1 : Int), .int .i64 p.1.2, undef, .int .i64 (spare : Int), .slice A n c, .int .i64 (n : Int), .slice B m d, .int .i64 (m : Int), .int .i64 ((n : Int) - (m : Int)), .int .i64 (e : Int), .int .i64 ((spare : Int) + (e : Int)), .int .i64 (spare : Int), .slice B m d, .int .i64 (m : Int), .slice A n c, .int .i64 (n : Int), .int .i64 ((m : Int) - (n : Int)), .int .i64 (f : Int), .int .i64 ((spare : Int) + (f : Int)), .slice B m d, .int .i64 (m : Int), .int .i64 ((m : Int) + 1), .slice (some ⟨w.heap.size + 1 + 1 + 1 + 1 + 1, 0, none⟩) (m + 1) (m + 1), .slice A n c, .func (.func 40) #[] #[.pointer (some ⟨w.heap.size + 1 + 1 + 1 + 1 + 1 + 1 + 1, 0, none⟩)], .int .i64 (p.1.1 : Int), .int .i64 p.1.2, undef, undef, undef, undef, undef, undef, undef, undef, undef, undef, undef, undef, undef, undef, undef, undef, undef, undef, undef, undef, undef, undef, undef, undef, undef, undef, undef, undef, undef, undef, undef, undef, undef], defers := [] }) ?assign ?body ?done ?stop
  case assign =>
    intro l p W K hK
    simp only [encI]
    gi_wp2
    exact hK
  case body =>
    rintro l pre ⟨⟨i, x⟩, hx⟩ W hI hlen
    have hi : i < n := by rw [← HN.out]; exact (List.getElem?_eq_some_iff.1 hx).1
    have hM := SwMLsW.start hI
    have hbnd := bnd_swp b cut (spare + e) (spare + f) (pre.map Subtype.val)
    rw [List.length_map] at hbnd
    have hC : Hid (swp b cut (spare + e) (spare + f) (pre.map Subtype.val) = swp b cut (spare + e) (spare + f) (pre.map Subtype.val)) := rfl
    obtain ⟨C, hCC⟩ : ∃ C, swp b cut (spare + e) (spare + f) (pre.map Subtype.val) = C := ⟨_, rfl⟩
    rw [hCC] at hM hbnd
    replace hC := Lib.hid hCC
    clear hCC hI HI
    generalize w.heap.size + 1 + 1 + 1 + 1 + 1 + 1 + 1 = zs at *
    generalize w.heap.size + 1 + 1 + 1 + 1 + 1 + 1 = zx at *
    generalize w.heap.size + 1 + 1 + 1 + 1 + 1 = zg at *
    generalize w.heap.size + 1 + 1 + 1 + 1 = zt at *
    generalize w.heap.size + 1 + 1 + 1 = zd at *
    generalize w.heap.size + 1 + 1 = zr at *
    generalize w.heap.size + 1 = zc at *
    obtain ⟨lo, hlo⟩ : ∃ lo, i - (spare + e) = lo := ⟨_, rfl⟩
    obtain ⟨hi, hhi⟩ : ∃ hi, min (i + (spare + f) + 1) m = hi := ⟨_, rfl⟩
    have x3 : (if (i : Int) - ((spare : Int) + (e : Int)) < 0 then 0 else (i : Int) - ((spare : Int) + (e : Int))) = (lo : Int) := by split <;> omega
    have x4 : (if (m : Int) < (i : Int) + ((spare : Int) + (f : Int)) + 1 then (m : Int) else (i : Int) + ((spare : Int) + (f : Int)) + 1) = (hi : Int) := by split <;> omega
    have HLo := Lib.hid hlo
    have HHi := Lib.hid hhi
    clear hlo hhi
    dsimp only
    by_cases hcc : i + 1 = cut
    · have t1 : ((i : Int) == (cut : Int) - 1) = true := by simp; omega
      have HCC := Lib.hid hcc
      clear hcc
      have c2 := hM.1.2.1.cell
      have c5 := hM.1.2.2.2.2.1.cell
      gi_wp2
      gi_loopw [45] (fun j wr => ∃ k : Nat, k ≤ m + 1 ∧ j = .int .i64 (k : Int) ∧ SwMLsW B m d cut spare e f w.heap.size zc zr zd zt zg zx zs w W (rstK C k) wr) (fun j _ => m + 1 - (intOf j).toNat)
      case atStart => exact ⟨0, Nat.zero_le _, rfl, by rw [rstK_zero]; exact hM⟩
      case round =>
        clear c2 c5 hM
        obtain ⟨k, hk, rfl, hM⟩ := hrel
        by_cases hlt : k < m + 1
        · have R : Hid (SwMLsW B m d cut spare e f w.heap.size zc zr zd zt zg zx zs w W (rstK C (k + 1)) (wr.setCell ⟨zg, k * 2 + 1, none⟩ (.int .i64 (k : Int)))) := hM.grown Z (grown_set (World.grownBy.refl _ _) _ _) (rstK_set hM.2.1)
          obtain ⟨q1, q2⟩ := hM.2.1.one hlt
          have q3 := World.rowIs.frozen hM.2.1 (k * 2 + 1)
          have c5 := hM.1.2.2.2.2.1.cell
          clear hM
          gi_wp2
          go_roundw
          case rel => exact ⟨k + 1, hlt, by go_num, R.out⟩
          case measure => simp [intOf]; omega
        · obtain rfl : k = m + 1 := by omega
          replace hM : SwMLsW B m d cut spare e f w.heap.size zc zr zd zt zg zx zs w W (rst C) wr := ⟨hM.1, hM.2.1.congr fun c hc => rstK_all c hc, hM.2.2⟩

          have hlo : lo ≤ hi := by have := HLo.out; have := HHi.out; have := HE.out; omega
          have CT := Lib.hid (row_any x B m d zg lo hi (m + 1) pre.length b (rst C) w wr HM.out hb' h2 hM.2.2.1 (by obtain ⟨y0, y1, y2, y3, y4, y5, y6, y7⟩ := Z; omega) (by have := HHi.out; omega) hlo (by omega) (bnd_rst hbnd) hM.2.1)
          have R : Hid (∀ w1, IsCells w1 zg (m + 1) (rowT x b (rst C) hi (hi - lo)) → World.grownBy wr w1 (some zg) → KeepsFrom wl.heap.size W w1 ∧ KpB w.heap.size zs W w1 ∧ SwI a b B m d cut spare e f w.heap.size zc zr zd zt zg zx zs w (pre ++ [⟨(i, x), hx⟩]) w1) := fun w1 s1 s2 => by
            rw [hlz]
            have := hM.grown Z s2 s1
            rw [← HLo.out, ← HHi.out] at this
            exact SwMLsW.done HM.out hx hC.out (if_pos HCC.out) this
          obtain ⟨⟨d1, d2, d3, d4, d5, d6⟩, -⟩ := hM
          have c1 := d1.cell
          have c3 := d3.cell
          have c4 := d4.cell
          have c5 := d5.cell
          clear d1 d2 d3 d4 d5 d6
          gi_wp2_with (refine ⟨trivial, ?_⟩; gi_at_call 39; refine (callsIn_wide.2 CT.out).mono ?_; rintro e' w1 ⟨⟨v, rfl⟩, s1, s2⟩)
          exact R.out _ s1 s2
    · have t1 : ((i : Int) == (cut : Int) - 1) = false := by simp; omega
      have HCC := Lib.hid hcc
      clear hcc
      have c2 := hM.1.2.1.cell

      have hlo : lo ≤ hi := by have := HLo.out; have := HHi.out; have := HE.out; omega
      have CT := Lib.hid (row_any x B m d zg lo hi (m + 1) pre.length b C w W HM.out hb' h2 hM.2.2.1 (by obtain ⟨y0, y1, y2, y3, y4, y5, y6, y7⟩ := Z; omega) (by have := HHi.out; omega) hlo (by omega) hbnd hM.2.1)
      have R : Hid (∀ w1, IsCells w1 zg (m + 1) (rowT x b C hi (hi - lo)) → World.grownBy W w1 (some zg) → KeepsFrom wl.heap.size W w1 ∧ KpB w.heap.size zs W w1 ∧ SwI a b B m d cut spare e f w.heap.size zc zr zd zt zg zx zs w (pre ++ [⟨(i, x), hx⟩]) w1) := fun w1 s1 s2 => by
        rw [hlz]
        have := hM.grown Z s2 s1
        rw [← HLo.out, ← HHi.out] at this
        exact SwMLsW.done HM.out hx hC.out (if_neg HCC.out) this
      obtain ⟨⟨d1, d2, d3, d4, d5, d6⟩, -⟩ := hM
      have c1 := d1.cell
      have c3 := d3.cell
      have c4 := d4.cell
      have c5 := d5.cell
      clear d1 d2 d3 d4 d5 d6
      gi_wp2_with (refine ⟨trivial, ?_⟩; gi_at_call 39; refine (callsIn_wide.2 CT.out).mono ?_; rintro e' w1 ⟨⟨v, rfl⟩, s1, s2⟩)
      exact R.out _ s1 s2
  case done =>
    rintro D ys W hD hS ⟨⟨d1, d2, d3, d4, d5, d6⟩, k1, k2, k3⟩ hK
    have c5 := d5.cell
    obtain ⟨q1, q2⟩ := k1.one (j := 0) (by omega)
    simp only [Nat.zero_mul, Nat.zero_add] at q1 q2
    obtain ⟨r1, r2, r3, r4⟩ := d6.cells
    rw [hS] at q1 q2
    have HB : Hid (∀ u v, Below w.heap.size w (((W.setCell ⟨w.heap.size + 1 + 1, 0, none⟩ u).setCell ⟨w.heap.size + 1 + 1, 1, none⟩ v).putObj D (.deferred none))) := fun u v => ((k2.setCell (by show _ ≤ w.heap.size + 1 + 1; omega) _).setCell (by show _ ≤ w.heap.size + 1 + 1; omega) _).grown (grownBy_putObj' _ D _) (Nat.le_trans k2.size (by simp)) (fun r e => by cases e; omega)
    have HX : Hid (∀ x y : Int, (((W.setCell ⟨w.heap.size + 1 + 1, 0, none⟩ (.int .i64 x)).setCell ⟨w.heap.size + 1 + 1, 1, none⟩ (.int .i64 y)).putObj D (.deferred none)).heap[w.heap.size + 1 + 1]? = some (.cells #[.int .i64 x, .int .i64 y] 51 (0, 0))) := fun x y => by
      rw [World.putObj_heap_other (by omega)]
      exact (d6.set x y).block
    have HD : Hid (∀ u v, ((W.setCell ⟨w.heap.size + 1 + 1, 0, none⟩ u).setCell ⟨w.heap.size + 1 + 1, 1, none⟩ v).heap[D]? = some (.deferred (some []))) := fun u v => by
      rw [Below.heap_setCell _ _ _ _ (by show D ≠ w.heap.size + 1 + 1; omega), Below.heap_setCell _ _ _ _ (by show D ≠ w.heap.size + 1 + 1; omega)]
      exact hK
    rw [HN.out] at q1 q2
    clear d1 d2 d3 d4 d5 d6 k1 k2 k3 hK HI bN hBl h1 h2
    gi_wp2
    refine ⟨by simp, .inl ⟨_, _, rfl, run_takeDeferred (HD.out _ _), ?_⟩⟩
    exact ⟨_, results_cell_row rfl _ _ (w.heap.size + 1 + 1) _ _ _ _ rfl (HX.out _ _) Try.underlying51 rfl Try.sizeCell, rfl, HB.out _ _⟩
  case stop =>
    rintro D c pre W _ _ h _
    exact h.elim

end Go.Proofs.Ytejpbjglfjhjkaa

namespace Go.Proofs.Ytejpbjglfjhjkaa
open Go.RowKit

/-- The head of a round. -/
def SpRel (s : Nat) (w : World) (v : Value) (wr : World) : Prop := ∃ k : Nat, k ≤ 2 * s + 1 ∧ v = .int .i64 (k : Int) ∧ Below w.heap.size w wr

set_option maxRecDepth 100000 in
set_option maxHeartbeats 1600000 in
theorem split_any (A B : Option Addr) (n m c d cut : Nat) (a b : List Int) (w : World) (hn : a.length = n) (hm : b.length = m) (hb : n ≤ 1048576) (hb' : m ≤ 1048576) (hcut : cut ≤ n) (hcut0 : 0 < cut) (h1 : Row w A (iv a)) (h2 : Row w B (iv b)) :
    Calls Try.prog 36 #[.slice A n c, .slice B m d, .int .i64 (cut : Int)] w fun e w' => e = .returned (.int .i64 ((spl a b cut : Nat) : Int)) ∧ Below w.heap.size w w' := by
  have HN := Lib.hid hn
  have HM := Lib.hid hm
  clear hn hm
  obtain ⟨s, hs⟩ : ∃ s, min n m = s := ⟨_, rfl⟩
  have x1 : (if m < n then (m : Int) else (n : Int)) = (s : Int) := by split <;> omega
  have bs : s ≤ 1048576 := by omega
  have HS := Lib.hid hs
  clear hs
  go_enter Try.func36, Try.ntmps36
  go_wp2_with fail
  go_loopw [8, 9] (fun v _ wr => SpRel s w v wr) (fun v _ _ => s - (intOf v).toNat)
  case atStart => exact ⟨0, Nat.zero_le _, rfl, Below.refl _ _⟩
  case round =>
    obtain ⟨k, hk, rfl, hB⟩ := hrel
    have SW := Lib.hid (sweep_anyLsW A B n m c d cut k a b wr HN.out HM.out hb hb' (by omega) hcut hcut0 (h1.below hB) (h2.below hB))
    have hd := swp_done a b cut k (by rw [HN.out]; exact hcut) hcut0
    rw [HN.out, HM.out, HS.out] at hd
    generalize swp b cut (k + (n - m)) (k + (m - n)) (backs a n) 0 = C at *
    obtain ⟨C1, C2⟩ := C
    obtain ⟨d1, d2⟩ := hd
    simp only at d1 d2
    have D2 := Lib.hid d2
    clear d2
    go_wp2_with fail
    refine SW.out.mono ?_
    rintro e w1 ⟨rfl, hB1⟩
    have hB2 := Lib.hid (fun o => below_al (below_go hB hB1) o)
    clear SW hB hB1
    by_cases hge : (s : Int) - (k : Int) ≤ C1
    · have t1 : decide ((s : Int) - (k : Int) ≤ C1) = true := decide_eq_true hge
      have HR := Lib.hid (D2.out hge)
      clear hge D2
      go_wp2_with fail
      go_ret
      exact ⟨by rw [← HR.out]; rfl, hB2.out _⟩
    · have t1 : decide ((s : Int) - (k : Int) ≤ C1) = false := decide_eq_false hge
      have hks : k < s := by omega
      clear hge
      go_wp2_with fail
      go_roundw
      case rel => exact ⟨2 * k + 1, by omega, by go_num, hB2.out _⟩
      case measure => simp [intOf]; omega

end Go.Proofs.Ytejpbjglfjhjkaa
