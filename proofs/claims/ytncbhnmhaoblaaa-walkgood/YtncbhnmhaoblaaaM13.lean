/-
  Words and contracts that the proof leans on.
-/
import Derived.Test.YtncbhnmhaoblaaaM12
import Derived.Maps.Own
import Derived.Maps.OwnOps
import Derived.Maps.OwnSet
import Derived.Maps.Range
import Derived.Lib.SlKeysI
namespace Go.Proofs.Ytncbhnmhaoblaaa
open Go.RowKit Go.Maps

/-- An element of the map as it stands. -/
def heldRMk2 (v : Value) : Option (DataW Value × List MemPlace) := some (.held v, [])
abbrev nilVMk2 : Value := .slice none 0 0
theorem klawMk2 : Keyed Try.prog 3 := int_keyed Try.underlying3
theorem zeroParts (w : World) : (zeroValue 61).run Try.prog w = .ok nilVMk2 w := by kernel_rfl

/-- Block B is a map: at each number of the first J of b its parts, f of it, each in a row of its own from lo on. -/
structure MaskM (w : World) (lo B : Nat) (b : List Int) (J : Nat) (f : Int → Value) : Prop where
  own : ∃ D : DataW Value, w.ownsMap Try.prog 3 heldRMk2 B J D ∧ (∀ k, D.atKey (.int .i64 k) (.held nilVMk2) = .held (f k)) ∧ (∀ k, Maps.has D (.int .i64 k) = decide (k ∈ b.take J))
  rows : ∀ k, ∃ ps, w.ownsRow lo 73 2 (f k) ps.length (ptvMkP ps) ∧ Parts ps J (fun j => decide (b[j]? = some k))
  apart : ∀ k k', k ≠ k' → (f k).ownBlock = none ∨ (f k).ownBlock ≠ (f k').ownBlock
  lt : B < lo

theorem MaskM.start (w : World) (o : Obj) (b : List Int) : MaskM ((w.alloc (.map #[] 0)).alloc o) (w.heap.size + 2) w.heap.size b 0 (fun _ => nilVMk2) := by
  refine ⟨⟨.map [], (World.ownsMap_made w _ _ _).alloc o, fun k => rfl, fun k => rfl⟩, fun k => ⟨[], World.ownsRow_nil _ _ _ _, Parts.none _⟩, fun _ _ _ => .inl rfl, by omega⟩
theorem MaskM.drew {w : World} {lo B : Nat} {b : List Int} {J : Nat} {f : Int → Value} (h : MaskM w lo B b J f) : MaskM w.drew lo B b J f := ⟨h.own, h.rows, h.apart, h.lt⟩

theorem MaskM.look {w : World} {lo B : Nat} {b : List Int} {J : Nat} {f : Int → Value} (h : MaskM w lo B b J f) {k : Int} (hk : (Lit.int .i64 k).wf = true) :
    (Instr.lookup 58 (.map (some B)) (.int .i64 k) false).run Try.prog w = .ok (f k) w := by
  obtain ⟨D, hD, hat, _⟩ := h.own
  obtain ⟨v, ps, hrun, hv⟩ := hD.lookup klawMk2 Try.underlying58 (zeroParts w) (zd := .held nilVMk2) (zp := []) rfl (keyOf_int_mk Try.underlying3 hk)
  rw [hat k] at hv
  simp only [heldRMk2, Option.some.injEq, Prod.mk.injEq, DataW.held.injEq] at hv
  rw [hrun, hv.1]

theorem mem_take_next {b : List Int} {J : Nat} {x k : Int} (h : b[J]? = some x) : (k ∈ b.take (J + 1)) ↔ k ∈ b.take J ∨ k = x := by
  obtain ⟨hk, e⟩ := List.getElem?_eq_some_iff.1 h
  rw [List.take_succ_eq_append_getElem hk, e]
  simp

/-- The parts of one number, one more index in them, are put back. -/
theorem MaskM.put {w w1 : World} {lo B : Nat} {b : List Int} {J : Nat} {f : Int → Value} (h : MaskM w lo B b J f) {k : Int} (hJ : J < maxLen) (hk : (Lit.int .i64 k).wf = true) (hb : b[J]? = some k) {v' : Value} {ps' : List PtMkP}
    (hown : w1.ownsRow lo 73 2 v' ps'.length (ptvMkP ps')) (hp : Parts ps' (J + 1) (fun j => decide (b[j]? = some k))) (hg : w.grownBy w1 (f k).ownBlock) (hloc : v'.ownBlock = (f k).ownBlock ∨ ∃ g, v'.ownBlock = some g ∧ w.heap.size ≤ g) :
    ∃ w2, (Instr.mapUpdate 58 (.map (some B)) (.int .i64 k) v').run Try.prog w1 = .ok () w2 ∧ MaskM w2 lo B b (J + 1) (fun i => if i = k then v' else f i) ∧ w1.grownBy w2 (some B) := by
  obtain ⟨D, hD, hat, hhas⟩ := h.own
  have hlt := h.lt
  have rowlt : ∀ i g, (f i).ownBlock = some g → lo ≤ g ∧ g < w.heap.size := fun i g e => by
    obtain ⟨ps, ho, _⟩ := h.rows i
    exact ho.lt g e
  have hB : some B ≠ (f k).ownBlock := fun e => by
    have := (rowlt k B e.symm).1
    omega
  have hD1 := hD.kept hg hB
  obtain ⟨w2, hrun, hD2, hg2⟩ := hD1.update klawMk2 Try.underlying58 hJ (keyOf_int_mk Try.underlying3 hk) (d := .held v') (ps := []) rfl
  have isM := hD.isMap
  refine ⟨w2, hrun, ⟨⟨D.put (.int .i64 k) (.held v'), hD2, fun i => ?_, fun i => ?_⟩, fun i => ?_, fun i j hij => ?_, hlt⟩, hg2⟩
  · by_cases e : i = k
    · subst e
      rw [if_pos rfl, atKey_put_same isM (by trivial)]
    · rw [if_neg e, atKey_put_other (fun e' => e (by injection e')), hat i]
  · by_cases e : i = k
    · subst e
      rw [has_put_same isM (by trivial)]
      simp [mem_take_next hb]
    · rw [has_put_other (fun e' => e (by injection e')), hhas i]
      simp [mem_take_next hb, e]
  · by_cases e : i = k
    · subst e
      rw [if_pos rfl]
      refine ⟨ps', hown.kept hg2 ?_, hp⟩
      cases hv : v'.ownBlock with
      | none => exact .inl rfl
      | some g =>
        right
        intro e
        have := (hown.lt g hv).1
        cases e
        omega
    · rw [if_neg e]
      obtain ⟨ps, ho, hpp⟩ := h.rows i
      refine ⟨ps, (ho.kept hg (h.apart i k e)).kept hg2 ?_, hpp.skip ?_⟩
      · cases hv : (f i).ownBlock with
        | none => exact .inl rfl
        | some g =>
          right
          intro e
          have := (rowlt i g hv).1
          cases e
          omega
      · rw [decide_eq_false_iff_not, hb]
        intro e'
        injection e' with e'
        exact e e'.symm
  · have hnew : ∀ i, i ≠ k → (f i).ownBlock = none ∨ (f i).ownBlock ≠ v'.ownBlock := fun i e => by
      rcases hloc with h1 | ⟨g, h1, h2⟩
      · rw [h1]
        exact h.apart i k e
      · cases hv : (f i).ownBlock with
        | none => exact .inl rfl
        | some g' =>
          right
          rw [h1]
          intro e'
          have := (rowlt i g' hv).2
          cases e'
          omega
    by_cases e : i = k
    · subst e
      rw [if_pos rfl, if_neg (fun e => hij e.symm)]
      rcases hnew j (fun e => hij e.symm) with h1 | h1
      · rw [h1]
        cases v'.ownBlock <;> simp
      · exact .inr (fun e => h1 e.symm)
    · rw [if_neg e]
      by_cases e' : j = k
      · rw [if_pos e']
        exact hnew i e
      · rw [if_neg e']
        exact h.apart i j hij

/-- The map of b, and nothing but its own blocks matter. -/
theorem MaskM.keep {w w' : World} {lo B hi : Nat} {b : List Int} {J : Nat} {f : Int → Value} (h : MaskM w lo B b J f) (hB : B < hi) (hr : ∀ k g, (f k).ownBlock = some g → g < hi) (hk : ∀ i, B ≤ i → i < hi → w'.heap[i]? = w.heap[i]?) : MaskM w' lo B b J f := by
  obtain ⟨D, ⟨es, clock, hb, F, hs, hD⟩, hat, hhas⟩ := h.own
  refine ⟨⟨D, ⟨es, clock, by rw [hk B (Nat.le_refl _) hB]; exact hb, F, hs, hD⟩, hat, hhas⟩, fun k => ?_, h.apart, h.lt⟩
  obtain ⟨ps, ⟨h1, h2⟩, hp⟩ := h.rows k
  refine ⟨ps, ⟨h1, ?_⟩, hp⟩
  rcases h2 with h2 | ⟨g, cap, cur, hv, hg, hh, r⟩
  · exact .inl h2
  · refine .inr ⟨g, cap, cur, hv, hg, ?_, r⟩
    have hlt := h.lt
    rw [hk g (by omega) (hr k g (by rw [hv]; rfl))]
    exact hh

/-- What v leads to is the masks of b, in blocks from lo up to hi. -/
def Msk (lo hi : Nat) (b : List Int) (w : World) (v : Value) : Prop :=
  ∃ (p B r : Nat) (f : Int → Value), v = .pointer (some ⟨p, 0, none⟩) ∧ lo ≤ p ∧ p < hi ∧ lo ≤ B ∧ B < hi ∧ w.heap[p]? = some (.cells #[.int .i64 (b.length : Int), .map (some B)] 60 (0, 0)) ∧
    MaskM w r B b b.length f ∧ ∀ k g, (f k).ownBlock = some g → g < hi
theorem Msk.keep {lo hi : Nat} {b : List Int} {w w' : World} {v : Value} (h : Msk lo hi b w v) (hk : ∀ i, lo ≤ i → i < hi → w'.heap[i]? = w.heap[i]?) : Msk lo hi b w' v := by
  obtain ⟨p, B, r, f, rfl, h1, h2, h3, h4, h5, h6, h7⟩ := h
  exact ⟨p, B, r, f, rfl, h1, h2, h3, h4, by rw [hk p h1 h2]; exact h5, h6.keep h4 h7 (fun i hi hi' => hk i (by omega) hi'), h7⟩
theorem Msk.below {lo hi : Nat} {b : List Int} {w w' : World} {v : Value} (h : Msk lo hi b w v) (hh : hi ≤ w.heap.size) (hb : Below w.heap.size w w') : Msk lo hi b w' v := h.keep fun i _ hi' => hb.block i (by omega)

/-- What New leaves. -/
def MskMade (b : List Int) (w : World) (e : Ending) (w' : World) : Prop := ∃ v, e = .returned v ∧ Msk w.heap.size w'.heap.size b w' v ∧ Below w.heap.size w w'

end Go.Proofs.Ytncbhnmhaoblaaa
