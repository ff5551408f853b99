/-
  Package thresh: Row.
-/
import Derived.Test.YtnocjkpjihpphaaTh1
import Derived.Test.YtnocjkpjihpphaaTwo
namespace Go.Proofs.Ytnocjkpjihpphaa
open Go.RowKit Go.Shelf
attribute [local go_sem] Oper.semAt_some

/-- What the list is when those have been put. -/
def thOf {js : List Int} (t : List Int) (pre : List (AtI js)) : List Int := (pre.map Subtype.val).foldl (fun s p => putT s p.2) t
theorem thOf_snoc {js : List Int} (t : List Int) (pre : List (AtI js)) (p : AtI js) : thOf t (pre ++ [p]) = putT (thOf t pre) p.1.2 := by
  unfold thOf
  simp only [List.map_append, List.map_cons, List.map_nil, List.foldl_append, List.foldl_cons, List.foldl_nil]
theorem th_upto (t js : List Int) : ∀ k, k ≤ js.length → (backs js k).foldl (fun s p => putT s p.2) t = rowTh t (js.drop (js.length - k)) := by
  intro k
  induction k with
  | zero =>
    intro _
    rw [Nat.sub_zero, List.drop_of_length_le (Nat.le_refl _)]
    rfl
  | succ k ih =>
    intro hk
    have ih := ih (by omega)
    obtain ⟨j, hj⟩ : ∃ j, j + k + 1 = js.length := ⟨js.length - k - 1, by omega⟩
    have hjl : j < js.length := by omega
    rw [backs_succ js hj (List.getElem?_eq_getElem hjl), List.foldl_append, List.foldl_cons, List.foldl_nil, ih, show js.length - k = j + 1 by omega, show js.length - (k + 1) = j by omega, List.drop_eq_getElem_cons hjl]
    rfl
theorem th_all {t js : List Int} {ys : List (AtI js)} (h : BackS js ys) : thOf t ys = rowTh t js := by
  unfold thOf
  rw [h, th_upto t js _ (Nat.le_refl _), Nat.sub_self, List.drop_zero]
theorem asc_thOf {js : List Int} {t : List Int} (h : Asc t) (pre : List (AtI js)) : Asc (thOf t pre) := by
  unfold thOf
  generalize pre.map Subtype.val = l
  induction l generalizing t with
  | nil => exact h
  | cons p l ih => exact ih (asc_put h p.2)
/-- However far it has come. -/
def FitsTh (t js : List Int) : Prop := t.length + js.length ≤ 1048576
theorem thOf_length {js : List Int} (t : List Int) (pre : List (AtI js)) : (thOf t pre).length ≤ t.length + pre.length := by
  unfold thOf
  have e : (pre.map Subtype.val).length = pre.length := List.length_map _
  rw [← e]
  clear e
  generalize pre.map Subtype.val = l
  induction l generalizing t with
  | nil => simp
  | cons p l ih =>
    have h1 := ih (putT t p.2)
    have h2 := (put_length t p.2).2
    rw [List.foldl_cons, List.length_cons]
    omega

/-- What holds between two rounds. -/
def ThI (t js : List Int) (B : Option Addr) (m d z zs : Nat) (w : World) (pre : List (AtI js)) (W : World) : Prop :=
  ∃ v, Boxed W z 22 v ∧ Boxed W zs 22 (.slice B m d) ∧ W.ownsRow w.heap.size 3 1 v (thOf t pre).length (iv (thOf t pre)) ∧ Below w.heap.size w W ∧ pre.length ≤ m
theorem ownsRow_keptO {W W' : World} {base n : Nat} {e : TypeId} {v : Value} {us : List Value} {row : Option Nat} (hr : W.ownsRow base e 1 v n us) (hg : W.grownBy W' row) (hrow : ∀ r, row = some r → ∃ o : Obj, W.heap[r]? = some o ∧ o.isCells = false) : W'.ownsRow base e 1 v n us := by
  refine hr.kept hg ?_
  rcases hr.2 with ⟨rfl, _⟩ | ⟨g, cap, cur, rfl, _, hgb, _⟩
  · exact .inl rfl
  · refine .inr fun e' => ?_
    obtain ⟨o, ho, hc⟩ := hrow g (by simpa [Value.ownBlock] using e'.symm)
    rw [hgb] at ho; cases ho; cases hc
theorem thI_own {t js : List Int} {B : Option Addr} {m d z zs : Nat} {w : World} {B0 : Nat} (hB : w.heap.size ≤ B0) : OwnFrom B0 (ThI t js B m d z zs w) := by
  rintro pre W W' row ⟨v, b1, b2, h1, h2, h3⟩ hg hr
  have hr' : ∀ r, row = some r → ∃ o : Obj, W.heap[r]? = some o ∧ o.isCells = false := fun r e => (hr r e).2
  exact ⟨v, boxed_keptO b1 hg hr', boxed_keptO b2 hg hr', ownsRow_keptO h1 hg hr', h2.grown hg h2.size (fun r e => Nat.le_trans hB (hr r e).1), h3⟩
theorem row_block {W : World} {base n : Nat} {e : TypeId} {v : Value} {us : List Value} (hr : W.ownsRow base e 1 v n us) : ∀ (j : Nat) (o : Obj), v.ownBlock = some j → W.heap[j]? = some o → o.isCells = true := by
  intro j o ej hj
  rcases hr.2 with ⟨rfl, _⟩ | ⟨g, cap, cur, rfl, _, hgb, _⟩
  · simp [Value.ownBlock] at ej
  · obtain rfl : g = j := by simpa [Value.ownBlock] using ej
    rw [hgb] at hj; cases hj; rfl
/-- A round. -/
theorem th_round {t js : List Int} {B : Option Addr} {m d z zs i : Nat} {x : Int} {w W W1 : World} {pre : List (AtI js)} {v v' : Value} (hx : js[i]? = some x) (hz : w.heap.size ≤ z) (hzz : z ≠ zs) (hl : pre.length < m)
    (b1 : Boxed W z 22 v) (b2 : Boxed W zs 22 (.slice B m d)) (h1 : W.ownsRow w.heap.size 3 1 v (thOf t pre).length (iv (thOf t pre))) (h2 : Below w.heap.size w W)
    (r : OwJ w.heap.size v (putT (thOf t pre) x) W v' W1) :
    Boxed W1 z 22 v ∧ (∃ g n c, v' = .slice (some ⟨g, 0, none⟩) n c) ∧ KeepsFrom (zs + 1) W (W1.setCell ⟨z, 0, none⟩ v') ∧ KpB w.heap.size zs W (W1.setCell ⟨z, 0, none⟩ v') ∧ ThI t js B m d z zs w (pre ++ [⟨(i, x), hx⟩]) (W1.setCell ⟨z, 0, none⟩ v') := by
  have n1 := b1.not_row (by decide) h1
  have n2 := b2.not_row (by decide) h1
  have c1 := b1.kept r.2.1 n1
  have c2 := b2.kept r.2.1 n2
  have n3 := c1.not_row (by decide) r.1
  have hp : 0 < (putT (thOf t pre) x).length := by
    unfold putT
    split
    · rw [List.length_append]; simp
    · rw [List.length_set]
      have := cnt_le (thOf t pre) x
      omega
  have k2 : Below w.heap.size W W1 := (Below.refl _ _).grown r.2.1 h2.size (fun k e => (h1.lt k e).1)
  obtain ⟨g, c, hv, _⟩ := own_posS r.1 hp
  refine ⟨c1, ⟨g, _, c, hv⟩, ((KeepsOthers.of_grownBy r.2.1 (row_block h1)).trans (KeepsOthers.setCell _ _ _)).from _, ⟨k2.setCell (p := ⟨z, 0, none⟩) hz _, ?_⟩, v', c1.set v', c2.other (Ne.symm hzz) _, ?_, (h2.trans k2).setCell (p := ⟨z, 0, none⟩) hz _, by rw [List.length_append]; exact hl⟩
  · rw [show W.heap[zs]? = _ from b2]
    exact c2.other (Ne.symm hzz) _
  · rw [thOf_snoc]
    exact r.1.kept (grownBy_setCell' W1 z v') (.inr n3.symm)

set_option maxRecDepth 100000 in
set_option maxHeartbeats 3200000 in
theorem trow_any (A B : Option Addr) (n m c d : Nat) (t js : List Int) (w : World) (hn : t.length = n) (hm : js.length = m) (hb : n + m ≤ 1048576) (hs : Asc t) (hnil : A = none → c = 0) (h1 : Row w A (iv t)) (h2 : Row w B (iv js)) :
    Calls Try.prog 12 #[.slice A n c, .slice B m d] w (MadeI (rowTh t js) w) := by
  have HN := Lib.hid hn
  have HM := Lib.hid hm
  have HS := Lib.hid hs
  clear hn hm hs
  refine (callsIn_wide (n := 3)).1 ?_
  refine callsIn_of_wp_marks Try.func12 rfl trivial ?_ rfl
  simp only [Try.ntmps12, List.size_toArray, List.length_cons, List.length_nil, Nat.reduceAdd, Nat.reduceSub, Array.replicate_succ, Array.replicate_zero, List.push_toArray, List.append_toArray, List.nil_append, List.cons_append]
  gi_wp2
  gi_wp2_with (refine ⟨trivial, ?_⟩; gi_at_call 23; refine (callsIn_wide.2 (clone_any A n c t w HN.out (by omega) hnil h1)).mono ?_; rintro e w1 ⟨v0, rfl, hv, hb1⟩; obtain ⟨V, cV, rfl, _, _, _, _⟩ := own_slice hv)
  gi_wp2_with (refine ⟨trivial, ?_⟩; gi_at_call 25; refine (back_in _ _ _ _ _).mono ?_; rintro e w' ⟨rfl, rfl⟩)
  have hsz := hb1.size
  have hbs : Below w.heap.size w ((w1.alloc (Obj.cells #[Value.slice V t.length cV] 22)).alloc (Obj.cells #[Value.slice B m d] 22)) := (hb1.alloc hsz _).alloc (by simp; omega) _
  have bz : Boxed ((w1.alloc (Obj.cells #[Value.slice V t.length cV] 22)).alloc (Obj.cells #[Value.slice B m d] 22)) w1.heap.size 22 (.slice V t.length cV) := (Boxed.new w1 _ _).alloc _
  have bN : Boxed ((w1.alloc (Obj.cells #[Value.slice V t.length cV] 22)).alloc (Obj.cells #[Value.slice B m d] 22)) (w1.heap.size + 1) 22 (.slice B m d) := by
    have := Boxed.new (w1.alloc (Obj.cells #[Value.slice V t.length cV] 22)) 22 (.slice B m d)
    simpa using this
  have HI : ThI t js B m d w1.heap.size (w1.heap.size + 1) w [] ((w1.alloc (Obj.cells #[Value.slice V t.length cV] 22)).alloc (Obj.cells #[Value.slice B m d] 22)) :=
    ⟨_, bz, bN, (hv.alloc _).alloc _, hbs, Nat.zero_le _⟩
  have hlz : ((w1.alloc (Obj.cells #[Value.slice V t.length cV] 22)).alloc (Obj.cells #[Value.slice B m d] 22)).heap.size = w1.heap.size + 1 + 1 := by simp
  clear bz hv hb1 h1
  generalize (w1.alloc (Obj.cells #[Value.slice V t.length cV] 22)).alloc (Obj.cells #[Value.slice B m d] 22) = wl at *
  generalize w1.heap.size = z at *
  refine wpIn_rangeFunc_ownG rfl (by omega) (gf := 30) (lb := #[.pointer (some ⟨z + 1, 0, none⟩)]) rfl trivial (enters_of Try.func30 (by kernel_rfl) rfl)
    (back_stops _ (by omega) (z + 1) B m d js w wl HM.out (by omega) h2 hbs bN) kpB_t (kpB_b (by omega) (by omega)) (Below.refl _ _) (fun _ => rfl)
    (ThI t js B m d z (z + 1) w) (fun _ _ _ => False) (thI_own (by omega)) (fun _ _ _ _ _ hs _ _ => hs) HI
    (fun p => { tmps := #[.slice A n c, .slice B m d, undef, undef, .slice none 0 0, .pointer (some ⟨z, 0, none⟩), undef, .int .i64 p.1.2, .slice A n c, .slice V t.length cV, .slice B m d, .func (.func 30) #[] #[.pointer (some ⟨z + 1, 0, none⟩)], .int .i64 (p.1.1 : Int), .int .i64 p.1.2, undef, undef, undef, undef, undef, undef, undef], defers := [] }) ?assign ?body ?done ?stop
  case assign =>
    intro l p W K hK
    simp only [encI]
    gi_wp2
    exact hK
  case body =>
    rintro l pre ⟨⟨i, x⟩, hx⟩ W ⟨v, b1, b2, q1, q2, q3⟩ hl
    have hlm : pre.length < m := by omega
    have hle := thOf_length t pre
    rw [HN.out] at hle
    have C := Lib.hid (tput_own w.heap.size v _ (thOf t pre) x W rfl (by omega) (asc_thOf HS.out pre) q1 q2.size)
    have M := Lib.hid (fun v' W1 r => th_round (i := i) (x := x) (v' := v') (W1 := W1) hx hsz (by omega) hlm b1 b2 q1 q2 r)
    have s1 := b1.cell
    obtain ⟨Vv, cVv, rfl, _, _, _, _⟩ := own_slice q1
    clear q1 q2 q3 b1 b2 HI bN hbs h2 hle
    dsimp only
    gi_wp2_with (refine ⟨trivial, ?_⟩; gi_at_call 22; refine (CallsIn.inRound l (callsIn_wide.2 C.out)).mono ?_; rintro e W1 ⟨v', rfl, r⟩; obtain ⟨bb, ⟨g', n', c', rfl⟩, R0⟩ := M.out _ W1 r; have R := Lib.hid R0; have t3 := bb.cell; have f3 := bb.frozen; clear bb R0 M C r s1)
    rw [hlz]
    exact R.out
  case done =>
    rintro D ys W hD hS ⟨v, b1, b2, q1, q2, q3⟩ hK
    rw [th_all hS] at q1
    have t0 := b1.cell
    obtain ⟨Vv, cVv, rfl, _, _, _, _⟩ := own_slice q1
    have HF : Hid (MadeI (rowTh t js) w (.returned (.slice Vv (rowTh t js).length cVv)) (W.putObj D (.deferred none))) :=
      ⟨_, rfl, ownsRow_putObj q1 _ hK rfl, q2.grown (grownBy_putObj' W D _) q2.size (fun r e => by cases e; omega)⟩
    clear q1 q2 q3 b1 b2
    gi_wp2
    refine ⟨by simp, .inl ⟨_, _, rfl, run_takeDeferred hK, ?_⟩⟩
    refine ⟨_, results_tmp rfl _ _ _, ?_⟩
    exact HF.out
  case stop =>
    rintro D c pre W _ _ h _
    exact h.elim

end Go.Proofs.Ytnocjkpjihpphaa
