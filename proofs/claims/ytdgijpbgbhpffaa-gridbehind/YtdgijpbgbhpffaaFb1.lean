/-
  Contract of package grid's fillBehind: a row of the table from the row below it.
-/
import Derived.Test.YtdgijpbgbhpffaaBw1
import Derived.Test.YtdgijpbgbhpffaaRnd
import Derived.Test.YtdgijpbgbhpffaaTbl
import Derived.Test.YtdgijpbgbhpffaaLow
namespace Go.Proofs.Ytdgijpbgbhpffaa
open Go.RowKit Go.Shelf
attribute [local go_sem] Oper.semAt_some

/-- A row of numbers in memory. -/
def IsRow (w : World) (g n : Nat) (F : Nat → Int) : Prop := w.rowIs g 3 n (fun c => .int .i64 (F c))
theorem rowIs_kept {W W' : World} {b n : Nat} {t : TypeId} {f : Nat → Value} {row : Option Nat} (h : W.rowIs b t n f) (hg : W.grownBy W' row) (hrow : ∀ r, row = some r → ∃ o : Obj, W.heap[r]? = some o ∧ o.isCells = false) : W'.rowIs b t n f := by
  obtain ⟨c, hb, hr⟩ := h
  refine ⟨c, ?_, hr⟩
  rw [hg.block b (Array.getElem?_eq_some_iff.1 hb).1 (fun e => ?_)]
  · exact hb
  · obtain ⟨o, ho, hc⟩ := hrow b e.symm
    rw [hb] at ho
    cases ho
    cases hc
theorem rowIs_grown {W W' : World} {b n : Nat} {t : TypeId} {f : Nat → Value} {row : Option Nat} (h : W.rowIs b t n f) (hg : W.grownBy W' row) (hne : some b ≠ row) : W'.rowIs b t n f := h.of_block (hg.block b h.lt hne)
theorem grown_more {w W W' : World} {g row : Option Nat} (h : w.grownBy W g) (k : W.grownBy W' row) (hr : ∀ r, row = some r → w.heap.size ≤ r ∨ g = some r) : w.grownBy W' g :=
  ⟨k.os.trans h.os, k.tape.trans h.tape, k.output.trans h.output, Nat.le_trans h.size k.size, fun i hi hne => (k.block i (Nat.lt_of_lt_of_le hi h.size) (fun e => by
    rcases hr i e.symm with h' | h'
    · omega
    · exact hne h'.symm)).trans (h.block i hi hne)⟩
theorem grown_alloc {w W : World} {g : Option Nat} (h : w.grownBy W g) (o : Obj) : w.grownBy (W.alloc o) g := grown_more h (World.grownBy_alloc W o none) (fun r e => by cases e)
theorem grown_set {w W : World} {g : Nat} (h : w.grownBy W (some g)) (i : Nat) (v : Value) : w.grownBy (W.setCell ⟨g, i, none⟩ v) (some g) :=
  ⟨h.os, h.tape, h.output, by simpa using h.size, fun k hk hne => by
    rw [Below.heap_setCell _ _ _ _ (by show k ≠ g; intro e; exact hne (by rw [e]))]
    exact h.block k hk hne⟩
theorem grown_drew {w W : World} {g : Option Nat} (h : w.grownBy W g) : w.grownBy W.drew g := ⟨h.os, h.tape, h.output, h.size, h.block⟩

/-- One number of a row, from the row below it. -/
def stepB (x : Int) (G F : Nat → Int) (p : Nat × Int) : Nat → Int := fun c => if c = p.1 then (if x = p.2 then IntKind.i64.wrap (G (p.1 + 1) + 1) else (if G p.1 < F (p.1 + 1) then F (p.1 + 1) else G p.1)) else F c
def fillB (x : Int) (b : List Int) (G F : Nat → Int) : Nat → Int := (backs b b.length).foldl (stepB x G) F

/-- What holds between two rounds. -/
def FbI (x : Int) (b : List Int) (h g m c1 c2 : Nat) (G F : Nat → Int) (w : World) (pre : List (AtI b)) (W : World) : Prop :=
  IsRow W g (m + 1) ((pre.map Subtype.val).foldl (stepB x G) F) ∧ IsRow W h (m + 1) G ∧ Boxed W w.heap.size 3 (.int .i64 x) ∧ Boxed W (w.heap.size + 1) 25 (.slice (some ⟨h, 0, none⟩) (m + 1) c1) ∧ Boxed W (w.heap.size + 1 + 1) 25 (.slice (some ⟨g, 0, none⟩) (m + 1) c2) ∧ w.grownBy W (some g)
theorem fbI_own {x : Int} {b : List Int} {h g m c1 c2 : Nat} {G F : Nat → Int} {w : World} {B : Nat} (hB : w.heap.size ≤ B) : OwnFrom B (FbI x b h g m c1 c2 G F w) := by
  rintro pre W W' row ⟨h1, h2, h3, h4, h5, h6⟩ hg hr
  have hr' : ∀ r, row = some r → ∃ o : Obj, W.heap[r]? = some o ∧ o.isCells = false := fun r e => (hr r e).2
  have ne : ∀ {b t v}, Boxed W b t v → some b ≠ row := fun hb e => by
    obtain ⟨o, ho, hc⟩ := hr' _ e.symm
    rw [show W.heap[_]? = _ from hb] at ho
    cases ho
    cases hc
  exact ⟨rowIs_kept h1 hg hr', rowIs_kept h2 hg hr', h3.kept hg (ne h3), h4.kept hg (ne h4), h5.kept hg (ne h5), grown_more h6 hg (fun r e => .inl (Nat.le_trans hB (hr r e).1))⟩

/-- What a round reads. -/
def FbS (x : Int) (h g m c1 c2 j : Nat) (G F : Nat → Int) (z : Nat) (W : World) : Prop :=
  W.cell? ⟨z, 0, none⟩ = some (.int .i64 x) ∧ W.cell? ⟨z + 1, 0, none⟩ = some (.slice (some ⟨h, 0, none⟩) (m + 1) c1) ∧ W.cell? ⟨z + 1 + 1, 0, none⟩ = some (.slice (some ⟨g, 0, none⟩) (m + 1) c2) ∧
  W.cell? ⟨h, j + 1, none⟩ = some (.int .i64 (G (j + 1))) ∧ W.cell? ⟨h, j, none⟩ = some (.int .i64 (G j)) ∧ W.cell? ⟨g, j + 1, none⟩ = some (.int .i64 (F (j + 1)))
theorem cell_set_other {W : World} {p q : Addr} {v u : Value} (h : W.cell? p = some u) (hne : p.block ≠ q.block) : (W.setCell q v).cell? p = some u := by
  have e : (W.setCell q v).cell? p = W.cell? p := World.cell?_of_block (a := p) (Below.heap_setCell W q v p.block hne)
  rw [e, h]
theorem fbS_set {x : Int} {h g m c1 c2 j : Nat} {G F : Nat → Int} {z : Nat} {W : World} (hS : FbS x h g m c1 c2 j G F z W) (hg : g < z) (hgh : g ≠ h) (hr : ∃ F', IsRow W g (m + 1) F') (hj : j < m) (v : Value) : FbS x h g m c1 c2 j G F z (W.setCell ⟨g, j, none⟩ v) := by
  obtain ⟨s1, s2, s3, s4, s5, s6⟩ := hS
  refine ⟨cell_set_other s1 (by show z ≠ g; omega), cell_set_other s2 (by show z + 1 ≠ g; omega), cell_set_other s3 (by show z + 1 + 1 ≠ g; omega), cell_set_other s4 (by show h ≠ g; omega), cell_set_other s5 (by show h ≠ g; omega), ?_⟩
  obtain ⟨F', hr⟩ := hr
  have h1 := World.rowIs.cell (World.rowIs.set hr j v) (i := j + 1) (by omega)
  have h2 := World.rowIs.cell hr (i := j + 1) (by omega)
  simp only [show ¬ (j + 1 = j) by omega, if_false] at h1
  rw [h1, ← h2, s6]

/-- What a round leaves. -/
def FbP (x : Int) (b : List Int) (h g m c1 c2 B n₀ Bs : Nat) (G F : Nat → Int) (w : World) (pre : List (AtI b)) (W W' : World) : Prop :=
  KeepsFrom B W W' ∧ KpB n₀ Bs W W' ∧ FbI x b h g m c1 c2 G F w pre W'
theorem fbP_step {x : Int} {b : List Int} {h g m c1 c2 B n₀ : Nat} {G F : Nat → Int} {w W : World} {pre : List (AtI b)} (hI : FbI x b h g m c1 c2 G F w pre W) {j : Nat} {y v : Int} (hx : b[j]? = some y) (hgh : g ≠ h) (hg0 : n₀ ≤ g) (hgw : g < w.heap.size)
    (hv : v = stepB x G ((pre.map Subtype.val).foldl (stepB x G) F) (j, y) j) : FbP x b h g m c1 c2 B n₀ (w.heap.size + 1 + 1 + 1) G F w (pre ++ [⟨(j, y), hx⟩]) W (W.setCell ⟨g, j, none⟩ (.int .i64 v)) := by
  obtain ⟨h1, h2, h3, h4, h5, h6⟩ := hI
  refine ⟨(KeepsOthers.setCell _ _ _).from _, ⟨(Below.refl _ _).setCell hg0 _, Below.heap_setCell _ _ _ _ (by show _ ≠ g; omega)⟩, ?_, World.rowIs.setOther h2 (by show h ≠ g; exact fun e => hgh e.symm) _, ?_, ?_, ?_, grown_set h6 _ _⟩
  · refine World.rowIs.congr (World.rowIs.set h1 j _) fun i _ => ?_
    simp only [List.map_append, List.map_cons, List.map_nil, List.foldl_append, List.foldl_cons, List.foldl_nil]
    by_cases e : i = j
    · subst e
      rw [if_pos rfl, hv]
    · rw [if_neg e]
      congr 1
      exact (if_neg e).symm
  · exact (Below.heap_setCell W _ _ _ (by show _ ≠ g; omega)).trans h3
  · exact (Below.heap_setCell W _ _ _ (by show _ ≠ g; omega)).trans h4
  · exact (Below.heap_setCell W _ _ _ (by show _ ≠ g; omega)).trans h5
theorem FbP.drew {x : Int} {b : List Int} {h g m c1 c2 B n₀ Bs : Nat} {G F : Nat → Int} {w W W' : World} {pre : List (AtI b)} (hI : FbP x b h g m c1 c2 B n₀ Bs G F w pre W W') : FbP x b h g m c1 c2 B n₀ Bs G F w pre W W'.drew :=
  ⟨⟨hI.1.1, hI.1.2⟩, ⟨hI.2.1.1.drew, hI.2.1.2⟩, hI.2.2.1, hI.2.2.2.1, hI.2.2.2.2.1, hI.2.2.2.2.2.1, hI.2.2.2.2.2.2.1, grown_drew hI.2.2.2.2.2.2.2⟩

set_option maxRecDepth 100000 in
set_option maxHeartbeats 3200000 in
theorem fillBehind_any (x : Int) (A : Option Addr) (m d g h c1 c2 : Nat) (b : List Int) (G F : Nat → Int) (w0 w : World) (hm : b.length = m) (hm' : m ≤ 1048576) (hb : Row w0 A (iv b)) (h0 : Below w0.heap.size w0 w) (hg0 : w0.heap.size ≤ g) (hgh : g ≠ h) (rG : IsRow w h (m + 1) G) (rF : IsRow w g (m + 1) F) :
    Calls Try.prog 30 #[.int .i64 x, .slice A m d, .slice (some ⟨h, 0, none⟩) (m + 1) c1, .slice (some ⟨g, 0, none⟩) (m + 1) c2] w fun e w' => (∃ v, e = .returned v) ∧ IsRow w' g (m + 1) (fillB x b G F) ∧ w.grownBy w' (some g) := by
  have HM := Lib.hid hm
  clear hm
  refine (callsIn_wide (n := 3)).1 ?_
  refine callsIn_of_wp_marks Try.func30 rfl trivial ?_ rfl
  simp only [Try.ntmps30, List.size_toArray, List.length_cons, List.length_nil, Nat.reduceAdd, Nat.reduceSub, Array.replicate_succ, Array.replicate_zero, List.push_toArray, List.append_toArray, List.nil_append, List.cons_append]
  gi_wp2_with (refine ⟨trivial, ?_⟩; gi_at_call 29; refine (back_in _ _ _ _ _).mono ?_; rintro e w' ⟨rfl, rfl⟩)
  have hgw : g < w.heap.size := World.rowIs.lt rF
  have bN := Boxed.new (((w.alloc (.cells #[.int .i64 x] 3)).alloc (.cells #[.slice (some ⟨h, 0, none⟩) (m + 1) c1] 25)).alloc (.cells #[.slice (some ⟨g, 0, none⟩) (m + 1) c2] 25)) 25 (.slice A m d)
  simp only [World.size_alloc] at bN
  have hs := h0.size
  have HI : FbI x b h g m c1 c2 G F w [] ((((w.alloc (.cells #[.int .i64 x] 3)).alloc (.cells #[.slice (some ⟨h, 0, none⟩) (m + 1) c1] 25)).alloc (.cells #[.slice (some ⟨g, 0, none⟩) (m + 1) c2] 25)).alloc (.cells #[.slice A m d] 25)) := by
    refine ⟨(((World.rowIs.alloc rF _).alloc _).alloc _).alloc _, (((World.rowIs.alloc rG _).alloc _).alloc _).alloc _, (((Boxed.new w _ _).alloc _).alloc _).alloc _, ?_, ?_, grown_alloc (grown_alloc (grown_alloc (grown_alloc (World.grownBy.refl _ _) _) _) _) _⟩
    · have := Boxed.new (w.alloc (.cells #[.int .i64 x] 3)) 25 (.slice (some ⟨h, 0, none⟩) (m + 1) c1)
      simp only [World.size_alloc] at this
      exact (this.alloc _).alloc _
    · have := Boxed.new ((w.alloc (.cells #[.int .i64 x] 3)).alloc (.cells #[.slice (some ⟨h, 0, none⟩) (m + 1) c1] 25)) 25 (.slice (some ⟨g, 0, none⟩) (m + 1) c2)
      simp only [World.size_alloc] at this
      exact this.alloc _
  have hB1 : Below w0.heap.size w0 ((((w.alloc (.cells #[.int .i64 x] 3)).alloc (.cells #[.slice (some ⟨h, 0, none⟩) (m + 1) c1] 25)).alloc (.cells #[.slice (some ⟨g, 0, none⟩) (m + 1) c2] 25)).alloc (.cells #[.slice A m d] 25)) :=
    (((h0.alloc hs _).alloc (by simp; omega) _).alloc (by simp; omega) _).alloc (by simp; omega) _
  have hsz : ((((w.alloc (.cells #[.int .i64 x] 3)).alloc (.cells #[.slice (some ⟨h, 0, none⟩) (m + 1) c1] 25)).alloc (.cells #[.slice (some ⟨g, 0, none⟩) (m + 1) c2] 25)).alloc (.cells #[.slice A m d] 25)).heap.size = w.heap.size + 1 + 1 + 1 + 1 := by simp
  generalize ((((w.alloc (.cells #[.int .i64 x] 3)).alloc (.cells #[.slice (some ⟨h, 0, none⟩) (m + 1) c1] 25)).alloc (.cells #[.slice (some ⟨g, 0, none⟩) (m + 1) c2] 25)).alloc (.cells #[.slice A m d] 25)) = wl at *
  refine wpIn_rangeFunc_ownG rfl (by omega) (gf := 34) (lb := #[.pointer (some ⟨w.heap.size + 1 + 1 + 1, 0, none⟩)]) rfl trivial (enters_of Try.func34 (by kernel_rfl) rfl)
    (back_stops _ (by omega) (w.heap.size + 1 + 1 + 1) A m d b w0 wl HM.out hm' hb hB1 bN) kpB_t (kpB_b (by omega) (by omega)) (Below.refl _ _) (fun _ => rfl)
    (FbI x b h g m c1 c2 G F w) (fun _ _ _ => False) (fbI_own (by omega)) (fun _ _ _ _ _ hs _ _ => hs) HI
    (fun p => { tmps := #[.int .i64 x, .slice A m d, .slice (some ⟨h, 0, none⟩) (m + 1) c1, .slice (some ⟨g, 0, none⟩) (m + 1) c2, .pointer (some ⟨w.heap.size, 0, none⟩), undef, .pointer (some ⟨w.heap.size + 1, 0, none⟩), .pointer (some ⟨w.heap.size + 1 + 1, 0, none⟩), .int .i64 (p.1.1 : Int), .int .i64 p.1.2, .slice A m d, .func (.func 34) #[] #[.pointer (some ⟨w.heap.size + 1 + 1 + 1, 0, none⟩)], .int .i64 (p.1.1 : Int), .int .i64 p.1.2, undef, undef, undef, undef, undef, undef, undef, undef, undef, undef, undef, undef, undef, undef, undef, undef, undef, undef, undef, undef, undef, undef, undef, undef, undef], defers := [] }) ?assign ?body ?done ?stop
  case assign =>
    intro l p W K hK
    simp only [encI]
    gi_wp2
    exact hK
  case body =>
    rintro l pre ⟨⟨j, y⟩, hx⟩ W hI _
    have hj : j < m := by rw [← HM.out]; exact (List.getElem?_eq_some_iff.1 hx).1
    have R := Lib.hid (fun v hv => fbP_step (B := wl.heap.size) (n₀ := w0.heap.size) (v := v) hI hx hgh hg0 hgw hv)
    obtain ⟨h1, h2, h3, h4, h5, h6⟩ := hI
    have HS : Hid (FbS x h g m c1 c2 j G ((pre.map Subtype.val).foldl (stepB x G) F) w.heap.size W) := ⟨h3.cell, h4.cell, h5.cell, World.rowIs.cell h2 (i := j + 1) (by omega), World.rowIs.cell h2 (i := j) (by omega), World.rowIs.cell h1 (i := j + 1) (by omega)⟩
    have HT : Hid (∀ v, FbS x h g m c1 c2 j G ((pre.map Subtype.val).foldl (stepB x G) F) w.heap.size (W.setCell ⟨g, j, none⟩ v)) := fun v => fbS_set HS.out hgw hgh ⟨_, h1⟩ hj v
    have b1 := h3.cell
    have t3 := World.rowIs.cell h1 (i := j) (by omega)
    have t5 := World.rowIs.frozen h1 j
    have hmx : Try.prog.follows .mixedOrders = true := by kernel_rfl
    generalize (pre.map Subtype.val).foldl (stepB x G) F = F' at *
    clear h1 h2 h3 h4 h5 h6 rG rF hb h0 HI hB1 bN
    have ew : IntKind.i64.wrap ((j : Int) + 1) = ((j + 1 : Nat) : Int) := by rw [IntWalk.i64_in _ (by omega)]; rfl
    dsimp only
    by_cases heq : x = y
    · subst heq
      have HV : Hid (stepB x G F' (j, x) j = IntKind.i64.wrap (G (j + 1) + 1)) := by show _ = _; simp [stepB]
      gi_wp2
      refine region_held (FbS x h g m c1 c2 j G F' w.heap.size) (by kernel_rfl) (fun ⟨_, _, h⟩ => h) hmx ?_
      refine wpAnyH_take (i := 0) (v := ?v1) rfl (by kernel_rfl) (by kernel_rfl) (by kernel_rfl) (fun _ _ _ h => h) (.inl ⟨by rfl, ?y1⟩) HS.out ?_
      case y1 =>
        rintro w' ⟨s1, s2, s3, s4, s5, s6⟩
        go_simp
        try simp only [ew]
        try rw [if_pos (by omega)]
        try simp only [Int.toNat_natCast]
        first | done | with_reducible rfl
      refine wpAnyH_take (i := 1) (v := ?v2) rfl (by kernel_rfl) (by kernel_rfl) (by kernel_rfl) (fun _ _ _ h => h) (.inl ⟨by rfl, ?y2⟩) HS.out ?_
      case y2 =>
        rintro w' ⟨s1, s2, s3, s4, s5, s6⟩
        go_simp
        try simp only [ew]
        try rw [if_pos (by omega)]
        try simp only [Int.toNat_natCast]
        first | done | with_reducible rfl
      refine wpAnyH_take (i := 2) (v := ?v3) rfl (by kernel_rfl) (by kernel_rfl) (by kernel_rfl) (fun _ _ _ h => h) (.inl ⟨by rfl, ?y3⟩) HS.out ?_
      case y3 =>
        rintro w' ⟨s1, s2, s3, s4, s5, s6⟩
        go_simp
        try simp only [ew]
        try rw [if_pos (by omega)]
        try simp only [Int.toNat_natCast]
        first | done | with_reducible rfl
      refine wpAnyH_take (i := 3) (v := ?v4) rfl (by kernel_rfl) (by kernel_rfl) (by kernel_rfl) (fun _ _ _ h => h) (.inl ⟨by rfl, ?y4⟩) HS.out ?_
      case y4 =>
        rintro w' ⟨s1, s2, s3, s4, s5, s6⟩
        go_simp
        try simp only [ew]
        try rw [if_pos (by omega)]
        try simp only [Int.toNat_natCast]
        first | done | with_reducible rfl
      refine wpAnyH_take (i := 4) (v := ?v5) rfl (by kernel_rfl) (by kernel_rfl) (by kernel_rfl) (fun _ _ _ h => h) (.inl ⟨by rfl, ?y5⟩) HS.out ?_
      case y5 =>
        rintro w' ⟨s1, s2, s3, s4, s5, s6⟩
        go_simp
        try simp only [ew]
        try rw [if_pos (by omega)]
        try simp only [Int.toNat_natCast]
        first | done | with_reducible rfl
      refine wpAnyH_take (i := 5) (v := ?v6) rfl (by kernel_rfl) (by kernel_rfl) (by kernel_rfl) (fun _ _ _ h => h) (.inl ⟨by rfl, ?y6⟩) HS.out ?_
      case y6 =>
        rintro w' ⟨s1, s2, s3, s4, s5, s6⟩
        go_simp
        try simp only [ew]
        try rw [if_pos (by omega)]
        try simp only [Int.toNat_natCast]
        first | done | with_reducible rfl
      refine wpAnyH_take (i := 6) (v := ?v7) rfl (by kernel_rfl) (by kernel_rfl) (by kernel_rfl) (fun _ _ _ h => h) (.inl ⟨by rfl, ?y7⟩) HS.out ?_
      case y7 =>
        rintro w' ⟨s1, s2, s3, s4, s5, s6⟩
        go_simp
        try simp only [ew]
        try rw [if_pos (by omega)]
        try simp only [Int.toNat_natCast]
        first | done | with_reducible rfl
      refine wpAnyH_take (i := 7) (v := ?v8) rfl (by kernel_rfl) (by kernel_rfl) (by kernel_rfl) (fun _ _ _ h => h) (.inl ⟨by rfl, ?y8⟩) HS.out ?_
      case y8 =>
        rintro w' ⟨s1, s2, s3, s4, s5, s6⟩
        go_simp
        try simp only [ew]
        try rw [if_pos (by omega)]
        try simp only [Int.toNat_natCast]
        first | done | with_reducible rfl
      refine wpAnyH_take (i := 8) (v := ?v9) rfl (by kernel_rfl) (by kernel_rfl) (by kernel_rfl) (fun _ _ _ h => h) (.inl ⟨by rfl, ?y9⟩) HS.out ?_
      case y9 =>
        rintro w' ⟨s1, s2, s3, s4, s5, s6⟩
        go_simp
        try simp only [ew]
        try rw [if_pos (by omega)]
        try simp only [Int.toNat_natCast]
        first | done | with_reducible rfl
      refine held_last (i := 9) (by kernel_rfl) (by kernel_rfl) rfl (by rfl) ?_
      go_simp
      exact ⟨HT.out _, (R.out _ HV.out.symm).drew⟩
    · have hz : (x == y) = false := by simpa using heq
      have HV : Hid (stepB x G F' (j, y) j = if G j < F' (j + 1) then F' (j + 1) else G j) := by show _ = _; simp [stepB, heq]
      clear heq
      gi_wp2
      refine region_held (FbS x h g m c1 c2 j G F' w.heap.size) (by kernel_rfl) (fun ⟨_, _, h⟩ => h) hmx ?_
      refine wpAnyH_take (i := 0) (v := ?v10) rfl (by kernel_rfl) (by kernel_rfl) (by kernel_rfl) (fun _ _ _ h => h) (.inl ⟨by rfl, ?y10⟩) HS.out ?_
      case y10 =>
        rintro w' ⟨s1, s2, s3, s4, s5, s6⟩
        go_simp
        try simp only [ew]
        try rw [if_pos (by omega)]
        try simp only [Int.toNat_natCast]
        first | done | with_reducible rfl
      refine wpAnyH_take (i := 1) (v := ?v11) rfl (by kernel_rfl) (by kernel_rfl) (by kernel_rfl) (fun _ _ _ h => h) (.inl ⟨by rfl, ?y11⟩) HS.out ?_
      case y11 =>
        rintro w' ⟨s1, s2, s3, s4, s5, s6⟩
        go_simp
        try simp only [ew]
        try rw [if_pos (by omega)]
        try simp only [Int.toNat_natCast]
        first | done | with_reducible rfl
      refine wpAnyH_take (i := 2) (v := ?v12) rfl (by kernel_rfl) (by kernel_rfl) (by kernel_rfl) (fun _ _ _ h => h) (.inl ⟨by rfl, ?y12⟩) HS.out ?_
      case y12 =>
        rintro w' ⟨s1, s2, s3, s4, s5, s6⟩
        go_simp
        try simp only [ew]
        try rw [if_pos (by omega)]
        try simp only [Int.toNat_natCast]
        first | done | with_reducible rfl
      refine wpAnyH_take (i := 3) (v := ?v13) rfl (by kernel_rfl) (by kernel_rfl) (by kernel_rfl) (fun _ _ _ h => h) (.inl ⟨by rfl, ?y13⟩) HS.out ?_
      case y13 =>
        rintro w' ⟨s1, s2, s3, s4, s5, s6⟩
        go_simp
        try simp only [ew]
        try rw [if_pos (by omega)]
        try simp only [Int.toNat_natCast]
        first | done | with_reducible rfl
      refine wpAnyH_take (i := 4) (v := ?v14) rfl (by kernel_rfl) (by kernel_rfl) (by kernel_rfl) (fun _ _ _ h => h) (.inl ⟨by rfl, ?y14⟩) HS.out ?_
      case y14 =>
        rintro w' ⟨s1, s2, s3, s4, s5, s6⟩
        go_simp
        try simp only [ew]
        try rw [if_pos (by omega)]
        try simp only [Int.toNat_natCast]
        first | done | with_reducible rfl
      refine wpAnyH_take (i := 5) (v := ?v15) rfl (by kernel_rfl) (by kernel_rfl) (by kernel_rfl) (fun _ _ _ h => h) (.inl ⟨by rfl, ?y15⟩) HS.out ?_
      case y15 =>
        rintro w' ⟨s1, s2, s3, s4, s5, s6⟩
        go_simp
        try simp only [ew]
        try rw [if_pos (by omega)]
        try simp only [Int.toNat_natCast]
        first | done | with_reducible rfl
      refine wpAnyH_take (i := 6) (v := ?v16) rfl (by kernel_rfl) (by kernel_rfl) (by kernel_rfl) (fun _ _ _ h => h) (.inl ⟨by rfl, ?y16⟩) HS.out ?_
      case y16 =>
        rintro w' ⟨s1, s2, s3, s4, s5, s6⟩
        go_simp
        try simp only [ew]
        try rw [if_pos (by omega)]
        try simp only [Int.toNat_natCast]
        first | done | with_reducible rfl
      refine wpAnyH_take (i := 7) (v := ?v17) rfl (by kernel_rfl) (by kernel_rfl) (by kernel_rfl) (fun _ _ _ h => h) (.inl ⟨by rfl, ?y17⟩) HS.out ?_
      case y17 =>
        rintro w' ⟨s1, s2, s3, s4, s5, s6⟩
        go_simp
        try simp only [ew]
        try rw [if_pos (by omega)]
        try simp only [Int.toNat_natCast]
        first | done | with_reducible rfl
      refine wpAnyH_take (i := 8) (v := ?v18) rfl (by kernel_rfl) (by kernel_rfl) (by kernel_rfl) (fun _ _ _ h => h) (.inl ⟨by rfl, ?y18⟩) HS.out ?_
      case y18 =>
        rintro w' ⟨s1, s2, s3, s4, s5, s6⟩
        go_simp
        try simp only [ew]
        try rw [if_pos (by omega)]
        try simp only [Int.toNat_natCast]
        first | done | with_reducible rfl
      refine wpAnyH_take (i := 9) (v := ?v19) rfl (by kernel_rfl) (by kernel_rfl) (by kernel_rfl) (fun _ _ _ h => h) (.inl ⟨by rfl, ?y19⟩) HS.out ?_
      case y19 =>
        rintro w' ⟨s1, s2, s3, s4, s5, s6⟩
        go_simp
        try simp only [ew]
        try rw [if_pos (by omega)]
        try simp only [Int.toNat_natCast]
        first | done | with_reducible rfl
      refine wpAnyH_take (i := 10) (v := ?v20) rfl (by kernel_rfl) (by kernel_rfl) (by kernel_rfl) (fun _ _ _ h => h) (.inl ⟨by rfl, ?y20⟩) HS.out ?_
      case y20 =>
        rintro w' ⟨s1, s2, s3, s4, s5, s6⟩
        go_simp
        try simp only [ew]
        try rw [if_pos (by omega)]
        try simp only [Int.toNat_natCast]
        first | done | with_reducible rfl
      refine wpAnyH_take (i := 11) (v := ?v21) rfl (by kernel_rfl) (by kernel_rfl) (by kernel_rfl) (fun _ _ _ h => h) (.inl ⟨by rfl, ?y21⟩) HS.out ?_
      case y21 =>
        rintro w' ⟨s1, s2, s3, s4, s5, s6⟩
        go_simp
        try simp only [ew]
        try rw [if_pos (by omega)]
        try simp only [Int.toNat_natCast]
        first | done | with_reducible rfl
      refine wpAnyH_take (i := 12) (v := ?v22) rfl (by kernel_rfl) (by kernel_rfl) (by kernel_rfl) (fun _ _ _ h => h) (.inl ⟨by rfl, ?y22⟩) HS.out ?_
      case y22 =>
        rintro w' ⟨s1, s2, s3, s4, s5, s6⟩
        go_simp
        try simp only [ew]
        try rw [if_pos (by omega)]
        try simp only [Int.toNat_natCast]
        first | done | with_reducible rfl
      refine held_last (i := 13) (by kernel_rfl) (by kernel_rfl) rfl (by rfl) ?_
      go_simp
      exact ⟨HT.out _, (R.out _ HV.out.symm).drew⟩
  case done =>
    rintro D ys W hD hS ⟨h1, h2, h3, h4, h5, h6⟩ hK
    gi_wp2
    refine ⟨by simp, .inl ⟨_, _, rfl, run_takeDeferred hK, ?_⟩⟩
    refine ⟨_, results_none rfl _ _ _, ⟨_, rfl⟩, ?_, grown_more h6 (grownBy_putObj' W D _) (fun r e => by cases e; exact .inl (by omega))⟩
    have := rowIs_kept h1 (grownBy_putObj' W D (.deferred none)) (fun r e => by cases e; exact ⟨_, hK, rfl⟩)
    rw [hS] at this
    exact this
  case stop =>
    rintro D c pre W _ _ h _
    exact h.elim


end Go.Proofs.Ytdgijpbgbhpffaa
