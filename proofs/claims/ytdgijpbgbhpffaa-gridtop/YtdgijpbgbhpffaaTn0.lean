/-
  Contract of package grid's turns: one bit a place.
-/
import Derived.Test.YtdgijpbgbhpffaaPb1
import Derived.Test.YtdgijpbgbhpffaaVc1
import Derived.BigRegion
namespace Go.Proofs.Ytdgijpbgbhpffaa
open Go.RowKit Go.Shelf
attribute [local go_sem] Oper.semAt_some

theorem Try.infoU64 : (Try.prog.info? 50).map (fun i => (i.zero, i.size, i.bytes)) = some (some (.int .u64 0), 1, 8) := by kernel_rfl
theorem Try.infoU64s : (Try.prog.info? 51).map (fun i => (i.zero, i.size, i.bytes)) = some (some (.slice none 0 0), 1, 24) := by kernel_rfl

/-- Words in memory, bit by bit. -/
def WordsAt (W : World) (B q : Nat) (D : Nat → Bool) : Prop :=
  ∃ u : Nat → Nat, W.rowIs B 50 q (fun k => .int .u64 (u k : Nat)) ∧ (∀ k, u k < 18446744073709551616) ∧ ∀ j, j / 64 < q → (u (j / 64)).testBit (j % 64) = D j
theorem WordsAt.grown {W W' : World} {B q : Nat} {D : Nat → Bool} {row : Option Nat} (h : WordsAt W B q D) (hg : W.grownBy W' row) (hne : some B ≠ row) : WordsAt W' B q D := by
  obtain ⟨u, h1, h2⟩ := h
  exact ⟨u, rowIs_grown h1 hg hne, h2⟩
theorem WordsAt.kept {W W' : World} {B q : Nat} {D : Nat → Bool} {row : Option Nat} (h : WordsAt W B q D) (hg : W.grownBy W' row) (hrow : ∀ r, row = some r → ∃ o : Obj, W.heap[r]? = some o ∧ o.isCells = false) : WordsAt W' B q D := by
  obtain ⟨u, h1, h2⟩ := h
  exact ⟨u, rowIs_kept h1 hg hrow, h2⟩
theorem WordsAt.lt {W : World} {B q : Nat} {D : Nat → Bool} (h : WordsAt W B q D) : B < W.heap.size := by
  obtain ⟨u, h1, h2⟩ := h
  exact h1.lt
theorem WordsAt.congr {W : World} {B q : Nat} {D D' : Nat → Bool} (h : WordsAt W B q D) (e : ∀ j, j / 64 < q → D j = D' j) : WordsAt W B q D' := by
  obtain ⟨u, h1, h2, h3⟩ := h
  exact ⟨u, h1, h2, fun j hj => by rw [h3 j hj, e j hj]⟩
theorem words_made (W : World) (q : Nat) : WordsAt (W.alloc (.cells (madeCells #[.int .u64 0] q) 50)) W.heap.size q (fun _ => false) :=
  ⟨fun _ => 0, World.rowIs_made W _ _ _, fun _ => by show (0 : Nat) < _; omega, fun _ _ => by simp⟩
theorem words_set {W : World} {B q j : Nat} {D : Nat → Bool} (h : WordsAt W B q D) : ∃ u : Nat, W.cell? ⟨B, j / 64, none⟩ = some (.int .u64 (u : Nat)) ∨ ¬ j / 64 < q := by
  obtain ⟨u, h1, _⟩ := h
  by_cases g : j / 64 < q
  · exact ⟨u (j / 64), .inl (h1.cell g)⟩
  · exact ⟨0, .inr g⟩
theorem words_bit {W : World} {B q j : Nat} {D : Nat → Bool} (h : WordsAt W B q D) (hj : j / 64 < q) : ∃ u : Nat, u < 18446744073709551616 ∧ W.cell? ⟨B, j / 64, none⟩ = some (.int .u64 (u : Nat)) ∧ (∀ i, W.frozen? ⟨B, i, none⟩ = false) ∧ u.testBit (j % 64) = D j ∧
    ∀ z : Int, z = ((u ||| 2 ^ (j % 64) : Nat) : Int) → WordsAt (W.setCell ⟨B, j / 64, none⟩ (.int .u64 z)) B q (fun i => D i || decide (i = j)) := by
  obtain ⟨u, h1, h2, h3⟩ := h
  refine ⟨u (j / 64), h2 _, h1.cell hj, fun i => h1.frozen i, h3 j hj, fun z hz => ?_⟩
  refine ⟨fun k => if k = j / 64 then u (j / 64) ||| 2 ^ (j % 64) else u k, (h1.set (j / 64) _).congr fun k _ => ?_, fun k => ?_, fun i hi => ?_⟩
  · dsimp only
    by_cases e : k = j / 64
    · rw [if_pos e, if_pos e, hz]
    · rw [if_neg e, if_neg e]
  · dsimp only
    split
    · exact Nat.or_lt_two_pow (n := 64) (h2 _) (Nat.pow_lt_pow_right (by decide) (Nat.mod_lt _ (by decide)))
    · exact h2 k
  · dsimp only
    by_cases e : i / 64 = j / 64
    · rw [if_pos e, Nat.testBit_or, Nat.testBit_two_pow, ← e, h3 i hi]
      congr 1
      simp only [decide_eq_decide]
      omega
    · rw [if_neg e, h3 i hi, decide_eq_false (by omega), Bool.or_false]

/-- Both rows and all bits. -/
abbrev St := (Nat → Int) × (Nat → Int) × (Nat → Nat → Bool)
def bitsOf (b : List Int) (G F : Nat → Int) (j : Nat) : Bool := decide (j < b.length) && decide (F (j + 1) ≤ G j)
def stepN (b : List Int) (s : St) (p : Nat × Int) : St := (fillB p.2 b s.1 s.2.1, s.1, fun r => if r = p.1 then bitsOf b s.1 (fillB p.2 b s.1 s.2.1) else s.2.2 r)
def st0 : St := (fun _ => 0, fun _ => 0, fun _ _ => false)
def stOf {a : List Int} (b : List Int) (pre : List (AtI a)) : St := (pre.map Subtype.val).foldl (stepN b) st0
theorem stOf_snoc {a : List Int} (b : List Int) (pre : List (AtI a)) (p : AtI a) : stOf b (pre ++ [p]) = stepN b (stOf b pre) p.1 := by
  unfold stOf
  simp only [List.map_append, List.map_cons, List.map_nil, List.foldl_append, List.foldl_cons, List.foldl_nil]
/-- Is leaving out a number of a no worse? -/
def turnB (a b : List Int) (r j : Nat) : Bool := decide (j < b.length) && decide (lx a b r (j + 1) ≤ lx a b (r + 1) j)
theorem turn_upto {a b : List Int} (hn : a.length ≤ 1048576) : ∀ k, k ≤ a.length → (∀ c, c ≤ b.length → ((backs a k).foldl (stepN b) st0).1 c = (lx a b (a.length - k) c : Nat)) ∧ ((backs a k).foldl (stepN b) st0).2.1 b.length = 0 ∧ (∀ r, a.length - k ≤ r → r < a.length → ∀ j, ((backs a k).foldl (stepN b) st0).2.2 r j = turnB a b r j) := by
  intro k
  induction k with
  | zero =>
    intro _
    refine ⟨fun c _ => ?_, rfl, fun r h1 h2 => by omega⟩
    rw [lx_end_left a b _ c (by omega)]
    rfl
  | succ k ih =>
    intro hk
    obtain ⟨ih1, ih2, ih3⟩ := ih (by omega)
    obtain ⟨j, hj⟩ : ∃ j, j + k + 1 = a.length := ⟨a.length - k - 1, by omega⟩
    have hjl : j < a.length := by omega
    have hx : a[j]? = some a[j] := List.getElem?_eq_getElem hjl
    generalize a[j] = x at *
    rw [backs_succ a hj hx, List.foldl_append, List.foldl_cons, List.foldl_nil]
    generalize (backs a k).foldl (stepN b) st0 = s at *
    rw [show a.length - k = j + 1 by omega] at ih1 ih3
    rw [show a.length - (k + 1) = j by omega]
    have hf := fun c hc => fillB_row (F := s.2.1) hx hn ih1 ih2 c hc
    refine ⟨hf, ?_, fun r h1 h2 i => ?_⟩
    · show s.1 b.length = 0
      rw [ih1 _ (Nat.le_refl _), lx_end_right a b _ _ (Nat.le_refl _)]
      rfl
    · show (if r = j then bitsOf b s.1 (fillB x b s.1 s.2.1) else s.2.2 r) i = _
      by_cases e : r = j
      · subst e
        rw [if_pos rfl]
        unfold bitsOf turnB
        by_cases g : i < b.length
        · rw [hf _ (by omega), ih1 _ (by omega)]
          simp
        · rw [decide_eq_false g, Bool.false_and, Bool.false_and]
      · rw [if_neg e]
        exact ih3 r (by omega) h2 i
theorem turn_all {a b : List Int} {ys : List (AtI a)} (hn : a.length ≤ 1048576) (h : BackS a ys) (r : Nat) (hr : r < a.length) (j : Nat) : (stOf b ys).2.2 r j = turnB a b r j := by
  unfold stOf
  rw [h]
  exact (turn_upto hn a.length (Nat.le_refl _)).2.2 r (by omega) hr j
theorem back_mem {a : List Int} {ys : List (AtI a)} (h : BackS a ys) (r : Nat) (hr : r < a.length) : ∃ p ∈ ys, p.1.1 = r := by
  have e : (r, a[a.length - 1 - (a.length - 1 - r)]?.getD 0) ∈ ys.map Subtype.val := by
    rw [h]
    unfold backs
    rw [List.mem_map]
    exact ⟨a.length - 1 - r, by rw [List.mem_range]; omega, by rw [show a.length - 1 - (a.length - 1 - r) = r by omega]⟩
  obtain ⟨p, h1, h2⟩ := List.mem_map.1 e
  exact ⟨p, h1, by rw [h2]⟩

/-- The four variables that the loop uses. -/
def TnB (B : Option Addr) (n m d T z0 zt z6 z7 g h : Nat) (W : World) : Prop :=
  Boxed W z0 25 (.slice B m d) ∧ Boxed W zt 45 (.slice (some ⟨T, 0, none⟩) n n) ∧ Boxed W z6 25 (.slice (some ⟨g, 0, none⟩) (m + 1) (m + 1)) ∧ Boxed W z7 25 (.slice (some ⟨h, 0, none⟩) (m + 1) (m + 1))
theorem TnB.grown {B : Option Addr} {n m d T z0 zt z6 z7 g h r : Nat} {W W' : World} (hB : TnB B n m d T z0 zt z6 z7 g h W) (hg : W.grownBy W' (some r)) (h1 : z0 ≠ r) (h2 : zt ≠ r) (h3 : z6 ≠ r) (h4 : z7 ≠ r) : TnB B n m d T z0 zt z6 z7 g h W' :=
  ⟨hB.1.kept hg (fun e => h1 (by injection e)), hB.2.1.kept hg (fun e => h2 (by injection e)), hB.2.2.1.kept hg (fun e => h3 (by injection e)), hB.2.2.2.kept hg (fun e => h4 (by injection e))⟩
/-- What holds between two rounds. -/
def TnI (a b : List Int) (B : Option Addr) (n m d q T z0 zt z6 z7 zs : Nat) (w : World) (pre : List (AtI a)) (W : World) : Prop :=
  ∃ (g h : Nat) (tv : Nat → Value), TnB B n m d T z0 zt z6 z7 g h W ∧ (g ≠ h ∧ zt < g ∧ zt < h ∧ g < zs ∧ h < zs) ∧ IsRow W g (m + 1) (stOf b pre).1 ∧ IsRow W h (m + 1) (stOf b pre).2.1 ∧ W.rowIs T 51 n tv ∧
    (∀ p ∈ pre, ∃ B', tv p.1.1 = .slice (some ⟨B', 0, none⟩) q q ∧ zs < B' ∧ WordsAt W B' q ((stOf b pre).2.2 p.1.1)) ∧ Below w.heap.size w W ∧ zs < W.heap.size
theorem tnI_own {a b : List Int} {B : Option Addr} {n m d q T z0 zt z6 z7 zs : Nat} {w : World} {B0 : Nat} (hB : w.heap.size ≤ B0) : OwnFrom B0 (TnI a b B n m d q T z0 zt z6 z7 zs w) := by
  rintro pre W W' row ⟨g, h, tv, ⟨b1, b2, b3, b4⟩, hn, h1, h2, h3, h4, h5, h6⟩ hg hr
  have hr' : ∀ r, row = some r → ∃ o : Obj, W.heap[r]? = some o ∧ o.isCells = false := fun r e => (hr r e).2
  refine ⟨g, h, tv, ⟨boxed_keptO b1 hg hr', boxed_keptO b2 hg hr', boxed_keptO b3 hg hr', boxed_keptO b4 hg hr'⟩, hn, rowIs_kept h1 hg hr', rowIs_kept h2 hg hr', rowIs_kept h3 hg hr', fun p hp => ?_, h5.grown hg h5.size (fun r e => Nat.le_trans hB (hr r e).1), Nat.lt_of_lt_of_le h6 hg.size⟩
  obtain ⟨B', e1, e2, e3⟩ := h4 p hp
  exact ⟨B', e1, e2, e3.kept hg hr'⟩
/-- Inside a round: row h is done, of the bits those up to k. -/
def TnM {a : List Int} (b : List Int) (B : Option Addr) (n m d q T z0 zt z6 z7 zs g h i k : Nat) (x : Int) (w : World) (pre : List (AtI a)) (W0 W : World) : Prop :=
  ∃ (tv : Nat → Value) (B' : Nat), TnB B n m d T z0 zt z6 z7 g h W ∧ IsRow W g (m + 1) (stOf b pre).1 ∧ IsRow W h (m + 1) (fillB x b (stOf b pre).1 (stOf b pre).2.1) ∧ W.rowIs T 51 n tv ∧ tv i = .slice (some ⟨B', 0, none⟩) q q ∧ zs < B' ∧
    WordsAt W B' q (fun j => decide (j < k) && bitsOf b (stOf b pre).1 (fillB x b (stOf b pre).1 (stOf b pre).2.1) j) ∧
    (∀ p ∈ pre, p.1.1 ≠ i → ∃ B'', tv p.1.1 = .slice (some ⟨B'', 0, none⟩) q q ∧ zs < B'' ∧ B'' ≠ B' ∧ WordsAt W B'' q ((stOf b pre).2.2 p.1.1)) ∧ Below w.heap.size w W ∧ zs < W.heap.size ∧ KeepsFrom (zs + 1) W0 W ∧ KpB w.heap.size zs W0 W
theorem TnM.drew {a : List Int} {b : List Int} {B : Option Addr} {n m d q T z0 zt z6 z7 zs g h i k : Nat} {x : Int} {w : World} {pre : List (AtI a)} {W0 W : World} (hM : TnM b B n m d q T z0 zt z6 z7 zs g h i k x w pre W0 W) : TnM b B n m d q T z0 zt z6 z7 zs g h i k x w pre W0 W.drew := by
  obtain ⟨tv, B', h1, h2, h3, h4, h5, h6, h7, h8, h9, h10, h11, h12⟩ := hM
  exact ⟨tv, B', h1, h2, h3, h4, h5, h6, h7, h8, h9.drew, h10, ⟨h11.1, h11.2⟩, ⟨h12.1.drew, h12.2⟩⟩

theorem boxed_ne {W : World} {z g n : Nat} {t t' : TypeId} {v : Value} {f : Nat → Value} (h : Boxed W z t v) (hr : W.rowIs g t' n f) (ht : t ≠ t') : z ≠ g := by
  rintro rfl
  obtain ⟨c, hc, _⟩ := hr
  rw [show W.heap[z]? = _ from h] at hc
  simp only [Option.some.injEq, Obj.cells.injEq] at hc
  exact ht hc.2.1
/-- Where the variables lie. -/
def TnZ (w : World) (T z0 zt z6 z7 zs : Nat) : Prop := w.heap.size ≤ z0 ∧ z0 < T ∧ T < zt ∧ zt < z6 ∧ zt < z7 ∧ z6 ≠ z7 ∧ z6 < zs ∧ z7 < zs

theorem tn_make {a b : List Int} {B : Option Addr} {n m d q T z0 zt z6 z7 zs g h i : Nat} {x : Int} {w W W1 : World} {pre : List (AtI a)} {tv : Nat → Value} (Z : TnZ w T z0 zt z6 z7 zs)
    (hB : TnB B n m d T z0 zt z6 z7 g h W) (hz : g ≠ h ∧ zt < g ∧ zt < h ∧ g < zs ∧ h < zs) (h1 : IsRow W g (m + 1) (stOf b pre).1) (h2 : IsRow W h (m + 1) (stOf b pre).2.1) (h3 : W.rowIs T 51 n tv) (h4 : ∀ p ∈ pre, ∃ B', tv p.1.1 = .slice (some ⟨B', 0, none⟩) q q ∧ zs < B' ∧ WordsAt W B' q ((stOf b pre).2.2 p.1.1)) (h5 : Below w.heap.size w W) (h6 : zs < W.heap.size)
    (s1 : IsRow W1 h (m + 1) (fillB x b (stOf b pre).1 (stOf b pre).2.1)) (s2 : W.grownBy W1 (some h)) :
    TnM b B n m d q T z0 zt z6 z7 zs g h i 0 x w pre W ((W1.alloc (.cells (madeCells #[.int .u64 0] q) 50)).setCell ⟨T, i, none⟩ (.slice (some ⟨W1.heap.size, 0, none⟩) q q)) := by
  obtain ⟨y1, y2, y3, y4, y5, y6, y7, y8⟩ := Z
  obtain ⟨g1, g2, g3, g4, g5⟩ := hz
  have n6 : z6 ≠ h := boxed_ne hB.2.2.1 h2 (by decide)
  have n7 : z7 ≠ h := boxed_ne hB.2.2.2 h2 (by decide)
  have hB1 := hB.grown s2 (by omega) (by omega) n6 n7
  have hs := s2.size
  have gA : W1.grownBy (W1.alloc (.cells (madeCells #[.int .u64 0] q) 50)) none := World.grownBy_alloc _ _ _
  have gS : W1.grownBy ((W1.alloc (.cells (madeCells #[.int .u64 0] q) 50)).setCell ⟨T, i, none⟩ (.slice (some ⟨W1.heap.size, 0, none⟩) q q)) (some T) := grown_set (World.grownBy_alloc _ _ _) _ _
  refine ⟨fun r => if r = i then .slice (some ⟨W1.heap.size, 0, none⟩) q q else tv r, W1.heap.size, hB1.grown gS (by omega) (by omega) (by omega) (by omega), rowIs_grown (rowIs_grown h1 s2 (fun e => g1 (by injection e))) gS (fun e => by injection e; omega), rowIs_grown s1 gS (fun e => by injection e; omega), ((rowIs_grown h3 s2 (fun e => by injection e; omega)).alloc _).set i _, if_pos rfl, by omega, ?_, ?_, ?_, ?_, ?_, ?_⟩
  · obtain ⟨u, k1, k2, k3⟩ := words_made W1 q
    refine ⟨u, k1.setOther (by show W1.heap.size ≠ T; omega) _, k2, fun j hj => ?_⟩
    rw [k3 j hj]
    simp
  · intro p hp hne
    obtain ⟨B'', e1, e2, e3⟩ := h4 p hp
    have := e3.lt
    exact ⟨B'', (if_neg hne).trans e1, e2, by omega, (e3.grown s2 (fun e => by injection e; omega)).grown gS (fun e => by injection e; omega)⟩
  · exact (h5.grown s2 h5.size (fun r e => by cases e; omega)).grown gS (by omega) (fun r e => by cases e; omega)
  · exact Nat.lt_of_lt_of_le h6 (Nat.le_trans hs gS.size)
  · exact (KeepsFrom.of_grownBy s2 (fun j e => by cases e; omega)).trans (KeepsFrom.of_grownBy gS (fun j e => by cases e; omega))
  · refine ⟨((Below.refl _ _).grown s2 h5.size (fun r e => by cases e; omega)).grown gS (by omega) (fun r e => by cases e; omega), ?_⟩
    rw [gS.block zs (by omega) (fun e => by injection e; omega), s2.block zs h6 (fun e => by injection e; omega)]

theorem tn_skip {a : List Int} {b : List Int} {B : Option Addr} {n m d q T z0 zt z6 z7 zs g h i k : Nat} {x : Int} {w : World} {pre : List (AtI a)} {W0 W : World} (hM : TnM b B n m d q T z0 zt z6 z7 zs g h i k x w pre W0 W) (hk : bitsOf b (stOf b pre).1 (fillB x b (stOf b pre).1 (stOf b pre).2.1) k = false) : TnM b B n m d q T z0 zt z6 z7 zs g h i (k + 1) x w pre W0 W := by
  obtain ⟨tv, B', h1, h2, h3, h4, h5, h6, h7, h8, h9, h10, h11, h12⟩ := hM
  refine ⟨tv, B', h1, h2, h3, h4, h5, h6, h7.congr fun j _ => ?_, h8, h9, h10, h11, h12⟩
  by_cases e : j = k
  · subst e
    rw [hk, Bool.and_false, Bool.and_false]
  · congr 1
    simp only [decide_eq_decide]
    omega
theorem tn_bit {a : List Int} {b : List Int} {B : Option Addr} {n m d q T z0 zt z6 z7 zs g h i k : Nat} {x : Int} {w : World} {pre : List (AtI a)} {W0 W : World} (Z : TnZ w T z0 zt z6 z7 zs) (hz : g ≠ h ∧ zt < g ∧ zt < h ∧ g < zs ∧ h < zs) (hM : TnM b B n m d q T z0 zt z6 z7 zs g h i k x w pre W0 W) (hi : i < n) (hk : bitsOf b (stOf b pre).1 (fillB x b (stOf b pre).1 (stOf b pre).2.1) k = true) (hq : k / 64 < q) :
    ∃ B' u : Nat, W.cell? ⟨T, i, none⟩ = some (.slice (some ⟨B', 0, none⟩) q q) ∧ zs < B' ∧ u < 18446744073709551616 ∧ W.cell? ⟨B', k / 64, none⟩ = some (.int .u64 (u : Nat)) ∧ W.frozen? ⟨B', k / 64, none⟩ = false ∧
      ∀ z : Int, z = ((u ||| 2 ^ (k % 64) : Nat) : Int) → TnM b B n m d q T z0 zt z6 z7 zs g h i (k + 1) x w pre W0 (W.setCell ⟨B', k / 64, none⟩ (.int .u64 z)) := by
  obtain ⟨tv, B', h1, h2, h3, h4, h5, h6, h7, h8, h9, h10, h11, h12⟩ := hM
  obtain ⟨y1, y2, y3, y4, y5, y6, y7, y8⟩ := Z
  obtain ⟨g1, g2, g3, g4, g5⟩ := hz
  obtain ⟨u, u1, u2, u3, u4, u5⟩ := words_bit h7 hq
  refine ⟨B', u, by rw [h4.cell hi, h5], h6, u1, u2, u3 _, fun z hz => ?_⟩
  have gS : W.grownBy (W.setCell ⟨B', k / 64, none⟩ (.int .u64 z)) (some B') := grown_set (World.grownBy.refl _ _) _ _
  refine ⟨tv, B', h1.grown gS (by omega) (by omega) (by omega) (by omega), rowIs_grown h2 gS (fun e => by injection e; omega), rowIs_grown h3 gS (fun e => by injection e; omega), rowIs_grown h4 gS (fun e => by injection e; omega), h5, h6, (u5 z hz).congr fun j _ => ?_, fun p hp hne => ?_, h9.setCell (by show _ ≤ B'; omega) _, by simpa using h10, h11.trans ((KeepsOthers.setCell _ _ _).from _), ⟨h12.1.setCell (by show _ ≤ B'; omega) _, (Below.heap_setCell _ _ _ _ (by show zs ≠ B'; omega)).trans h12.2⟩⟩
  · by_cases e : j = k
    · subst e
      rw [hk]
      simp
    · rw [decide_eq_false e, Bool.or_false]
      congr 1
      simp only [decide_eq_decide]
      omega
  · obtain ⟨B'', e1, e2, e3, e4⟩ := h8 p hp hne
    exact ⟨B'', e1, e2, e3, e4.grown gS (fun e => e3 (by injection e))⟩
theorem tn_swap {a b : List Int} {B : Option Addr} {n m d q T z0 zt z6 z7 zs g h i : Nat} {x : Int} {w : World} {pre : List (AtI a)} {W0 W : World} (Z : TnZ w T z0 zt z6 z7 zs) (hz : g ≠ h ∧ zt < g ∧ zt < h ∧ g < zs ∧ h < zs) (hm : b.length = m) (hx : a[i]? = some x) (hM : TnM b B n m d q T z0 zt z6 z7 zs g h i m x w pre W0 W) :
    KeepsFrom (zs + 1) W0 ((W.setCell ⟨z6, 0, none⟩ (.slice (some ⟨h, 0, none⟩) (m + 1) (m + 1))).setCell ⟨z7, 0, none⟩ (.slice (some ⟨g, 0, none⟩) (m + 1) (m + 1))) ∧ KpB w.heap.size zs W0 ((W.setCell ⟨z6, 0, none⟩ (.slice (some ⟨h, 0, none⟩) (m + 1) (m + 1))).setCell ⟨z7, 0, none⟩ (.slice (some ⟨g, 0, none⟩) (m + 1) (m + 1))) ∧
    TnI a b B n m d q T z0 zt z6 z7 zs w (pre ++ [⟨(i, x), hx⟩]) ((W.setCell ⟨z6, 0, none⟩ (.slice (some ⟨h, 0, none⟩) (m + 1) (m + 1))).setCell ⟨z7, 0, none⟩ (.slice (some ⟨g, 0, none⟩) (m + 1) (m + 1))) := by
  obtain ⟨tv, B', h1, h2, h3, h4, h5, h6, h7, h8, h9, h10, h11, h12⟩ := hM
  obtain ⟨y1, y2, y3, y4, y5, y6, y7, y8⟩ := Z
  obtain ⟨g1, g2, g3, g4, g5⟩ := hz
  have n1 : z6 ≠ g := boxed_ne h1.2.2.1 h2 (by decide)
  have n2 : z6 ≠ h := boxed_ne h1.2.2.1 h3 (by decide)
  have n3 : z7 ≠ g := boxed_ne h1.2.2.2 h2 (by decide)
  have n4 : z7 ≠ h := boxed_ne h1.2.2.2 h3 (by decide)
  refine ⟨(h11.trans ((KeepsOthers.setCell _ _ _).from _)).trans ((KeepsOthers.setCell _ _ _).from _), ⟨(h12.1.setCell (by show _ ≤ z6; omega) _).setCell (by show _ ≤ z7; omega) _, (Below.heap_setCell _ _ _ _ (by show zs ≠ z7; omega)).trans ((Below.heap_setCell _ _ _ _ (by show zs ≠ z6; omega)).trans h12.2)⟩, ?_⟩
  rw [TnI, stOf_snoc]
  refine ⟨h, g, tv, ⟨(h1.1.other (by omega) _).other (by omega) _, (h1.2.1.other (by omega) _).other (by omega) _, (h1.2.2.1.set _).other y6 _, (h1.2.2.2.other (Ne.symm y6) _).set _⟩, ⟨Ne.symm g1, g3, g2, g5, g4⟩, (World.rowIs.setOther h3 (Ne.symm n2) _).setOther (Ne.symm n4) _, (World.rowIs.setOther h2 (Ne.symm n1) _).setOther (Ne.symm n3) _, (h4.setOther (by show T ≠ z6; omega) _).setOther (by show T ≠ z7; omega) _, fun p hp => ?_, (h9.setCell (by show _ ≤ z6; omega) _).setCell (by show _ ≤ z7; omega) _, by simpa using h10⟩
  have gS : ∀ {r : Nat}, zs < r → ∀ {D : Nat → Bool}, WordsAt W r q D → WordsAt ((W.setCell ⟨z6, 0, none⟩ (.slice (some ⟨h, 0, none⟩) (m + 1) (m + 1))).setCell ⟨z7, 0, none⟩ (.slice (some ⟨g, 0, none⟩) (m + 1) (m + 1))) r q D := fun hr _ hw =>
    (hw.grown (grown_set (g := z6) (World.grownBy.refl _ _) _ _) (fun e => by injection e; omega)).grown (grown_set (g := z7) (World.grownBy.refl _ _) _ _) (fun e => by injection e; omega)
  show ∃ B', tv p.1.1 = _ ∧ _ ∧ WordsAt _ B' q ((if p.1.1 = i then bitsOf b (stOf b pre).1 (fillB x b (stOf b pre).1 (stOf b pre).2.1) else (stOf b pre).2.2 p.1.1))
  by_cases e : p.1.1 = i
  · rw [if_pos e, e]
    refine ⟨B', h5, h6, (gS h6 h7).congr fun j _ => ?_⟩
    unfold bitsOf
    rw [hm]
    cases decide (j < m) <;> simp
  · rw [if_neg e]
    rcases List.mem_append.1 hp with hp | hp
    · obtain ⟨B'', e1, e2, e3, e4⟩ := h8 p hp e
      exact ⟨B'', e1, e2, gS e2 e4⟩
    · rw [List.mem_singleton] at hp
      subst hp
      exact absurd rfl e

theorem or_bit (u s : Nat) (hu : u < 18446744073709551616) (hs : s < 64) : bits .or .u64 (u : Int) (IntKind.u64.wrap ((2 : Int) ^ s)) = ((u ||| 2 ^ s : Nat) : Int) := by
  have h2 : 2 ^ s < 18446744073709551616 := Nat.lt_of_lt_of_le (Nat.pow_lt_pow_right (by decide) hs) (by decide)
  have e1 : ((2 : Int) ^ s) = ((2 ^ s : Nat) : Int) := by rw [Int.natCast_pow]; rfl
  have e2 : IntKind.u64.wrap ((2 : Int) ^ s) = ((2 ^ s : Nat) : Int) := by
    rw [e1, IntKind.wrap_u64]
    clear e1
    generalize 2 ^ s = P at *
    omega
  rw [e2, u64_or_nat u _ hu h2]

end Go.Proofs.Ytdgijpbgbhpffaa
