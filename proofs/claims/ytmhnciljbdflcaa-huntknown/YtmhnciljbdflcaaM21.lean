/-
  Words and contracts that the proof leans on.
-/
import Derived.Test.YtmhnciljbdflcaaM20
import Derived.Test.YtmhnciljbdflcaaM14
import Derived.Test.YtmhnciljbdflcaaM17
import Derived.Maps.AppendAt
namespace Go.Proofs.Ytmhnciljbdflcaa
open Go.RowKit Go.Maps

abbrev nilV : Value := .slice none 0 0
theorem zeroInts (w : World) : (zeroValue 25).run Try.prog w = .ok nilV w := by kernel_rfl

/-- A number's places among the first J of b. -/
def idxT (b : List Int) (J : Nat) (x : Int) : List Int := ((List.range J).filter fun j => decide (b[j]? = some x)).map fun (j : Nat) => (j : Int)
theorem idx_all (b : List Int) (x : Int) : idxT b b.length x = plcR x b := rfl
theorem idx_zero (b : List Int) (x : Int) : idxT b 0 x = [] := rfl
theorem idx_next {b : List Int} {J : Nat} {k : Int} (h : b[J]? = some k) (x : Int) : idxT b (J + 1) x = if x = k then idxT b J k ++ [(J : Int)] else idxT b J x := by
  unfold idxT
  rw [List.range_succ, List.filter_append, List.map_append]
  by_cases e : x = k
  · subst e
    rw [if_pos rfl]
    simp [h]
  · rw [if_neg e]
    have : (decide (b[J]? = some x)) = false := by rw [decide_eq_false_iff_not, h]; intro e'; injection e' with e'; exact e e'.symm
    simp [this]
theorem idx_le (b : List Int) (J : Nat) (x : Int) : (idxT b J x).length ≤ J := by
  unfold idxT
  rw [List.length_map]
  exact Nat.le_trans (List.length_filter_le _ _) (by simp)

/-- Block B is a map: at each number of the first J of b its places, f of it, each in a row of its own from lo on. -/
structure IdxM (w : World) (lo B : Nat) (b : List Int) (J : Nat) (f : Int → Value) : Prop where
  own : ∃ D : DataW Value, w.ownsMap Try.prog 3 heldR B J D ∧ (∀ k, D.atKey (.int .i64 k) (.held nilV) = .held (f k))
  rows : ∀ k, w.ownsRow lo 3 1 (f k) (idxT b J k).length (iv (idxT b J k))
  apart : ∀ k k', k ≠ k' → (f k).ownBlock = none ∨ (f k).ownBlock ≠ (f k').ownBlock
  lt : B < lo
theorem IdxM.start (w : World) (b : List Int) : IdxM (w.alloc (.map #[] 0)) (w.heap.size + 1) w.heap.size b 0 (fun _ => nilV) :=
  ⟨⟨.map [], World.ownsMap_made w _ _ _, fun k => rfl⟩, fun k => World.ownsRow_nil _ _ _ _, fun _ _ _ => .inl rfl, by omega⟩
theorem IdxM.look {w : World} {lo B : Nat} {b : List Int} {J : Nat} {f : Int → Value} (h : IdxM w lo B b J f) {k : Int} (hk : (Lit.int .i64 k).wf = true) :
    (Instr.lookup 45 (.map (some B)) (.int .i64 k) false).run Try.prog w = .ok (f k) w := by
  obtain ⟨D, hD, hat⟩ := h.own
  obtain ⟨v, ps, hrun, hv⟩ := hD.lookup klaw Try.underlying45 (zeroInts w) (zd := .held nilV) (zp := []) rfl (keyOf_int_mk Try.underlying3 hk)
  rw [hat k] at hv
  simp only [heldR, Option.some.injEq, Prod.mk.injEq, DataW.held.injEq] at hv
  rw [hrun, hv.1]

/-- The places of one number, one more index in them, are put back. -/
theorem IdxM.put {w w1 : World} {lo B : Nat} {b : List Int} {J : Nat} {f : Int → Value} (h : IdxM w lo B b J f) {k : Int} (hJ : J < maxLen) (hk : (Lit.int .i64 k).wf = true) (hb : b[J]? = some k) {v' : Value}
    (hown : w1.ownsRow lo 3 1 v' ((idxT b J k).length + 1) (iv (idxT b J k) ++ [.int .i64 (J : Int)])) (hg : w.grownBy w1 (f k).ownBlock) (hloc : v'.ownBlock = (f k).ownBlock ∨ ∃ g, v'.ownBlock = some g ∧ w.heap.size ≤ g) :
    ∃ w2, (Instr.mapUpdate 45 (.map (some B)) (.int .i64 k) v').run Try.prog w1 = .ok () w2 ∧ IdxM w2 lo B b (J + 1) (fun i => if i = k then v' else f i) ∧ w1.grownBy w2 (some B) := by
  obtain ⟨D, hD, hat⟩ := h.own
  have hlt := h.lt
  have rowlt : ∀ i g, (f i).ownBlock = some g → lo ≤ g ∧ g < w.heap.size := fun i g e => (h.rows i).lt g e
  have hB : some B ≠ (f k).ownBlock := fun e => by
    have := (rowlt k B e.symm).1
    omega
  have hD1 := hD.kept hg hB
  obtain ⟨w2, hrun, hD2, hg2⟩ := hD1.update klaw Try.underlying45 hJ (keyOf_int_mk Try.underlying3 hk) (d := .held v') (ps := []) rfl
  have isM := hD.isMap
  refine ⟨w2, hrun, ⟨⟨D.put (.int .i64 k) (.held v'), hD2, fun i => ?_⟩, fun i => ?_, fun i j hij => ?_, hlt⟩, hg2⟩
  · by_cases e : i = k
    · subst e
      rw [if_pos rfl, atKey_put_same isM (by trivial)]
    · rw [if_neg e, atKey_put_other (fun e' => e (by injection e')), hat i]
  · rw [idx_next hb]
    by_cases e : i = k
    · subst e
      rw [if_pos rfl, if_pos rfl, iv_append, List.length_append]
      refine World.ownsRow.kept hown hg2 ?_
      cases hv : v'.ownBlock with
      | none => exact .inl rfl
      | some g =>
        right
        intro e
        have := (hown.lt g hv).1
        cases e
        omega
    · rw [if_neg e, if_neg e]
      refine ((h.rows i).kept hg (h.apart i k e)).kept hg2 ?_
      cases hv : (f i).ownBlock with
      | none => exact .inl rfl
      | some g =>
        right
        intro e
        have := (rowlt i g hv).1
        cases e
        omega
  · have hnew : ∀ i, i ≠ k → (f i).ownBlock = none ∨ (f i).ownBlock ≠ v'.ownBlock := fun i e => by
      rcases hloc with h1 | ⟨g, h1, h2⟩
      · rw [h1]
        exact h.apart i k e
      · cases hv : (f i).ownBlock with
        | none => exact .inl rfl
        | some g' =>
          right
          rw [h1]
          intro e'
          have := (rowlt i g' hv).2
          cases e'
          omega
    by_cases e : i = k
    · subst e
      rw [if_pos rfl, if_neg (fun e => hij e.symm)]
      rcases hnew j (fun e => hij e.symm) with h1 | h1
      · rw [h1]
        cases v'.ownBlock <;> simp
      · exact .inr (fun e => h1 e.symm)
    · rw [if_neg e]
      by_cases e' : j = k
      · rw [if_pos e']
        exact hnew i e
      · rw [if_neg e']
        exact h.apart i j hij

/-- The map of all places of b, in blocks below hi, to be read. -/
structure IdxF (lo Bm : Nat) (f : Int → Value) (hi : Nat) (b : List Int) (w : World) : Prop where
  lt : Bm < hi
  map : IdxM w lo Bm b b.length f
  low : ∀ k g, (f k).ownBlock = some g → g < hi
/-- A map, or numbers; memory of another kind. -/
def NumO (o : Obj) : Prop := (∃ es c, o = .map es c) ∨ ∃ cs s, o = .cells cs 3 s
def Oth (o : Obj) : Prop := ∃ cs e s, o = .cells cs e s ∧ e ≠ 3
theorem own_num {w w' : World} {B n : Nat} {v : Value} {us : List Value} (h : w.ownsRow B 3 1 v n us) (hk : ∀ (g : Nat) (o : Obj), w.heap[g]? = some o → NumO o → w'.heap[g]? = some o) : w'.ownsRow B 3 1 v n us := by
  obtain ⟨h1, h2⟩ := h
  refine ⟨h1, ?_⟩
  rcases h2 with h2 | ⟨g, cap, cur, hv, hg, hh, r⟩
  · exact .inl h2
  · exact .inr ⟨g, cap, cur, hv, hg, hk _ _ hh (.inr ⟨_, _, rfl⟩), r⟩
theorem oth_grown {w w' : World} {B n : Nat} {v : Value} {us : List Value} (h : w.ownsRow B 3 1 v n us) (hg : w.grownBy w' v.ownBlock) : ∀ (g : Nat) (o : Obj), w.heap[g]? = some o → Oth o → w'.heap[g]? = some o := by
  intro g o hh ⟨cs, e, s, ho, hne⟩
  rw [hg.block g (Array.getElem?_eq_some_iff.1 hh).1 ?_]
  · exact hh
  · intro e'
    rcases h.2 with ⟨rfl, _⟩ | ⟨g', cap, cur, rfl, _, hh', _⟩
    · cases e'
    · obtain rfl : g = g' := by simpa [Value.ownBlock] using e'
      rw [hh, ho] at hh'
      simp only [Option.some.injEq, Obj.cells.injEq] at hh'
      exact hne hh'.2.1
theorem IdxF.keep {lo Bm : Nat} {f : Int → Value} {hi : Nat} {b : List Int} {w w' : World} (h : IdxF lo Bm f hi b w) (hk : ∀ (g : Nat) (o : Obj), g < hi → w.heap[g]? = some o → NumO o → w'.heap[g]? = some o) : IdxF lo Bm f hi b w' := by
  obtain ⟨hB, ⟨⟨D, ⟨es, clock, hb, F, hs, hD⟩, hat⟩, hr, ha, hl⟩, hf⟩ := h
  refine ⟨hB, ⟨⟨D, ⟨es, clock, hk _ _ hB hb (.inl ⟨_, _, rfl⟩), F, hs, hD⟩, hat⟩, fun k => ?_, ha, hl⟩, hf⟩
  obtain ⟨h1, h2⟩ := hr k
  refine ⟨h1, ?_⟩
  rcases h2 with h2 | ⟨g, cap, cur, hv, hg, hh, r⟩
  · exact .inl h2
  · exact .inr ⟨g, cap, cur, hv, hg, hk _ _ (hf k g (by rw [hv]; rfl)) hh (.inr ⟨_, _, rfl⟩), r⟩
theorem IdxF.grown {lo Bm : Nat} {f : Int → Value} {hi : Nat} {b : List Int} {w w' : World} {r : Option Nat} (h : IdxF lo Bm f hi b w) (hg : w.grownBy w' r) (hr : ∀ k, r = some k → hi ≤ k) : IdxF lo Bm f hi b w' :=
  h.keep fun g o hl hh _ => by
    rw [hg.block g (Array.getElem?_eq_some_iff.1 hh).1 (fun e => by have := hr g e.symm; omega)]
    exact hh
theorem IdxF.drewN {lo Bm : Nat} {f : Int → Value} {hi : Nat} {b : List Int} {w : World} (h : IdxF lo Bm f hi b w) (q : Nat) : IdxF lo Bm f hi b (w.drewN q) := h.keep fun _ _ _ hh _ => hh
/-- A number's places, looked up. -/
theorem IdxF.at_ {lo Bm : Nat} {f : Int → Value} {hi : Nat} {b : List Int} {w : World} (h : IdxF lo Bm f hi b w) (x : Int) : w.ownsRow lo 3 1 (f x) (plcR x b).length (iv (plcR x b)) := h.map.rows x

/-- The head of a round of indices. -/
def IxRel (b : List Int) (w : World) (i : Value) (wr : World) : Prop :=
  ∃ (k : Nat) (f : Int → Value), k ≤ b.length ∧ i = .int .i64 (k : Int) ∧ IdxM wr (w.heap.size + 1) w.heap.size b k f ∧ Below w.heap.size w wr
/-- What indices leaves. -/
def IdxMade (b : List Int) (w : World) (e : Ending) (w' : World) : Prop := ∃ lo Bm f, e = .returned (.map (some Bm)) ∧ IdxF lo Bm f w'.heap.size b w' ∧ Below w.heap.size w w'
theorem ix_done {b : List Int} {w wr : World} {f : Int → Value} (h : IdxM wr (w.heap.size + 1) w.heap.size b b.length f) (hb : Below w.heap.size w wr) : IdxMade b w (.returned (.map (some w.heap.size))) wr := by
  obtain ⟨D, hD, _⟩ := h.own
  exact ⟨_, _, f, rfl, ⟨hD.lt, h, fun k g e => ((h.rows k).lt g e).2⟩, hb⟩
theorem ix_round {b : List Int} {w wr wz w1 w2 : World} {k : Nat} {f f' : Int → Value} {x : Int} (hk : k < b.length) (hB : Below w.heap.size w wr) (hz : Below wr.heap.size wr wz) (hM0 : IdxM wr (w.heap.size + 1) w.heap.size b k f) (hg : wz.grownBy w1 (f x).ownBlock) (hg2 : w1.grownBy w2 (some w.heap.size)) (hM : IdxM w2 (w.heap.size + 1) w.heap.size b (k + 1) f') : IxRel b w (.int .i64 ((k + 1 : Nat) : Int)) w2 := by
  have h0 : Below w.heap.size w wz := below_go hB hz
  refine ⟨k + 1, f', by omega, rfl, hM, (h0.grown hg h0.size fun q hq => ?_).grown hg2 (Nat.le_trans h0.size hg.size) fun q hq => ?_⟩
  · have := ((hM0.rows x).lt q hq).1
    omega
  · cases hq
    exact Nat.le_refl _

set_option maxRecDepth 100000 in
set_option maxHeartbeats 1600000 in
theorem indices_any (A : Option Addr) (n c : Nat) (b : List Int) (w : World) (hn : b.length = n) (hb : n ≤ 1048576) (hr : Row w A (iv b)) (hw : ∀ x ∈ b, (Lit.int .i64 x).wf = true) :
    Calls Try.prog 24 #[.slice A n c] w (IdxMade b w) := by
  subst hn
  obtain ⟨i0, hi, hz0, hz1, hz2⟩ := info_parts Try.infoInt
  have hmm := @run_makeMap Try.prog
  have hs0 := IdxM.start w b
  have hb0 := below_a1 w (.map #[] 0)
  go_enter Try.func24, Try.ntmps24
  go_wp2_with fail
  generalize hw0 : w.alloc (.map #[] 0) = w0 at *
  clear hw0
  go_loopw [9] (fun i wr => IxRel b w i wr) (fun i _ => b.length - (RowKit.intOf i).toNat)
  case atStart => exact ⟨0, _, Nat.zero_le _, rfl, hs0, hb0⟩
  case round =>
    clear hs0 hb0
    obtain ⟨k, f, hk, rfl, hM, hB⟩ := hrel
    by_cases hlt : k < b.length
    · obtain ⟨g, o, rfl, hc⟩ := (hr.below hB).int hlt
      have HX : Hid (b[k]? = some b[k]) := List.getElem?_eq_getElem hlt
      have hx := hw b[k] (List.getElem_mem _)
      clear hr hw
      generalize b[k] = x at *
      have hlook := hM.look hx
      have hown := hM.rows x
      have hle := idx_le b k x
      have hsz := hB.size
      have HP := Lib.hid (fun v' w1 (h2 : w1.ownsRow (w.heap.size + 1) 3 1 v' ((idxT b k x).length + 1) (iv (idxT b k x) ++ [.int .i64 (k : Int)])) (h3 : (wr.alloc (.cells #[.int .i64 (k : Int)] 3)).grownBy w1 (f x).ownBlock) (h5 : v'.ownBlock = (f x).ownBlock ∨ v'.ownBlock = some (wr.alloc (.cells #[.int .i64 (k : Int)] 3)).heap.size) =>
        hM.put (by unfold maxLen; omega) hx HX.out h2 (grown_more (below_grown (below_a1 wr (.cells #[.int .i64 (k : Int)] 3)) (f x).ownBlock) h3 (fun r e => .inr e)) (h5.imp id fun e => ⟨_, e, by simp⟩))
      have HR := Lib.hid (fun (w1 w2 : World) (f' : Int → Value) h3 h4 h5 => ix_round (w1 := w1) (w2 := w2) (f' := f') (x := x) hlt hB (below_a1 wr (.cells #[.int .i64 (k : Int)] 3)) hM h3 h4 h5)
      have hBs : w.heap.size + 1 ≤ wr.heap.size := by
        obtain ⟨D, hD, _⟩ := hM.own
        exact hD.lt
      generalize f x = v at *
      generalize hL : idxT b k x = L at *
      clear hM hB hL
      go_wp2_with (at_builtin; refine wpList_append_own_at _ rfl (.tmp 18) (.tmp 20) 25 rfl (w.heap.size + 1) 3 i0 (.int .i64 0) 1 8 Try.underlying25 hi hz0 hz1 hz2 rfl (by decide) _ _ _ rfl (hown.alloc _) ⟨wr.heap.size, 0, none⟩ 1 1 [_] rfl rfl (cell_one_new _ _ _) (one_int _ _) (by unfold maxLen; omega) (by omega) (by simp; omega) ?_)
      intro v' w1 hown' hg' _ h5
      obtain ⟨w2, hup, hM2, hg2⟩ := HP.out v' w1 hown' hg' (by simpa using h5)
      have R := Lib.hid (HR.out w1 w2 _ hg' hg2 hM2)
      clear HP HR hown' hg' h5 hM2 hg2 hown hlook
      go_wp2_with fail
      go_roundw
      case rel => exact R.out
      case measure => first | omega | (simp [RowKit.intOf] <;> omega)
    · have hkb : k = b.length := by omega
      subst hkb
      have HF := Lib.hid (ix_done hM hB)
      clear hM hB hr hw
      go_wp2_with fail
      go_ret
      exact HF.out

end Go.Proofs.Ytmhnciljbdflcaa
