/-
  Words and contracts that the proof leans on.
-/
import Derived.Test.YtncbhnmhaoblaaaM36
import Derived.Test.YtncbhnmhaoblaaaM33
import Derived.Shelf.GgSortFunc.RowK
namespace Go.Proofs.Ytncbhnmhaoblaaa
open Go.RowKit Go.Sort

def encPRvP (p : Pr) : List Value := [.int .i64 p.1, .int .i64 p.2]
theorem flat_pv (L : List Pr) : flatK encPRvP 2 L.toArray = (pv L).toArray := by
  refine ext_get! (by simp [pv_length]) fun t ht => ?_
  have ht' : t < L.length * 2 := by simpa using ht
  have hk : t / 2 < L.length := by omega
  rw [get_flatK _ _ _ _ (by simpa using ht'), getElem!_pos L.toArray (t / 2) (by simpa using hk)]
  obtain ⟨h1, h2⟩ := pv_get L (t / 2) hk
  have e : ∀ (j : Nat) (v : Value), (pv L)[j]? = some v → (pv L).toArray[j]! = v := fun j v h => by
    obtain ⟨hj, hv⟩ := List.getElem?_eq_some_iff.1 h
    rw [getElem!_pos _ _ (by simpa using hj)]
    simpa using hv
  rcases Nat.mod_two_eq_zero_or_one t with h | h
  · rw [show t / 2 * 2 = t by omega] at h1
    rw [h, e _ _ h1]
    simp [encPRvP]
  · rw [show t / 2 * 2 + 1 = t by omega] at h2
    rw [h, e _ _ h2]
    simp [encPRvP]
theorem holds_pairs {w : World} {B g n cap : Nat} {e : TypeId} {L : List Pr} (h : w.ownsRow B e 2 (.slice (some ⟨g, 0, none⟩) n cap) n (pv L)) : HoldsK encPRvP 2 w g 0 L.toArray := by
  unfold HoldsK
  rw [flat_pv]
  intro j hj
  have hj' : j < (pv L).length := by simpa using hj
  refine ⟨?_, ?_⟩
  · have h1 := h.cells (g := g) rfl j ((pv L)[j]) (List.getElem?_eq_getElem hj')
    rw [Addr.add_lit] at h1
    rw [h1, getElem!_pos _ _ (by simpa using hj')]
    simp
  · rcases h.2 with ⟨e, _⟩ | ⟨g', cap', cur, hv, _, hh, _⟩
    · cases e
    · simp only [Value.slice.injEq, Option.some.injEq, Addr.mk.injEq, and_true, true_and] at hv
      obtain ⟨rfl, rfl⟩ := hv
      simp [World.frozen?, hh]
theorem own_put {w : World} {B g n cap : Nat} {e : TypeId} {L R : List Pr} (h : w.ownsRow B e 2 (.slice (some ⟨g, 0, none⟩) n cap) n (pv L)) (hR : R.length = n) (q : Nat) :
    (putRowK encPRvP 2 (Sort.ahead w q) g 0 R.toArray).ownsRow B e 2 (.slice (some ⟨g, 0, none⟩) n cap) n (pv R) := by
  unfold putRowK
  rw [flat_pv]
  rcases h.2 with ⟨h', _⟩ | ⟨g', cap', cur, h', hb, hg, hnc, hcm, hcs, htake⟩
  · cases h'
  · simp only [Value.slice.injEq, Option.some.injEq, Addr.mk.injEq, and_true, true_and] at h'
    obtain ⟨rfl, rfl⟩ := h'
    have hgs : g < w.heap.size := (Array.getElem?_eq_some_iff.1 hg).1
    refine ⟨by rw [pv_length, hR], .inr ⟨g, cap, putCells id 0 (pv R).toArray cur, rfl, hb, ?_, hnc, hcm, by simpa [putCells] using hcs, ?_⟩⟩
    · show (w.heap.modify g (onCells (putCells id 0 (pv R).toArray)))[g]? = _
      rw [Array.getElem?_modify, if_pos rfl, hg]
      rfl
    · have hl : (pv R).length = n * 2 := by rw [pv_length, hR]
      have hnc2 : n * 2 ≤ cap * 2 := Nat.mul_le_mul_right 2 hnc
      apply List.ext_getElem?
      intro i
      rw [List.getElem?_take]
      by_cases hi : i < n * 2
      · rw [if_pos hi]
        have hc : i < cur.size := by omega
        simp only [putCells, Array.getElem?_toList, Array.getElem?_mapIdx, Array.getElem?_eq_getElem hc, Option.map_some]
        rw [if_pos ⟨Nat.zero_le _, by simp; omega⟩, Nat.sub_zero, getElem!_pos _ i (by simp; omega), List.getElem?_eq_getElem (by omega)]
        simp
      · rw [if_neg hi, List.getElem?_eq_none (by omega)]
theorem grown_put {w : World} {g : Nat} (F : Array Pr) (q : Nat) : w.grownBy (putRowK encPRvP 2 (Sort.ahead w q) g 0 F) (some g) := by
  refine ⟨rfl, rfl, rfl, by simp [putRowK, putRow, mapBlock, Sort.ahead], fun k _ hne => ?_⟩
  show (w.heap.modify g _)[k]? = w.heap[k]?
  rw [Array.getElem?_modify, if_neg (fun e => hne (by rw [e]))]

theorem Try.aggPair (w : World) : (isAgg 29).run Try.prog w = .ok true w := Try.isAgg29 w
theorem Try.sizePairRvP (w : World) : (Go.sizeOf 29).run Try.prog w = .ok 2 w := Try.sizeOf29 w

/-- What Reverse leaves. -/
def RvMade (B : Nat) (v : Value) (n : Nat) (L : List Pr) (w : World) (e : Ending) (w' : World) : Prop := e = .returned (.tuple #[]) ∧ w'.ownsRow B 29 2 v n (pv L.reverse) ∧ w.grownBy w' v.ownBlock
theorem rev_any (B n : Nat) (v : Value) (L : List Pr) (w : World) (hn : L.length = n) (hb : n ≤ 4611686018427387904) (h : w.ownsRow B 29 2 v n (pv L)) :
    Calls Try.prog 27 #[v] w (RvMade B v n L w) := by
  rcases h.2 with ⟨hv, h0⟩ | ⟨g, cap, cur, hv, _⟩
  · subst hv
    subst h0
    have hl : L = [] := List.eq_nil_of_length_eq_zero hn
    subst hl
    refine (AnyQ.slices_Reverse_empty Try.revL none 0 w).mono fun e w' he => ?_
    obtain ⟨rfl, rfl⟩ := he
    exact ⟨rfl, World.ownsRow_nil _ _ _ _, World.grownBy.refl _ _⟩
  · subst hv
    have H := AnyQ.slices_Reverse Try.revL 2 Try.aggPair Try.sizePairRvP encPRvP (fun _ => rfl) (fun p => one_pair p.1 p.2) g 0 cap L.toArray w (holds_pairs h) (by simp; omega)
    rw [show L.toArray.size = n by simpa using hn] at H
    refine H.mono fun e w' he => ?_
    obtain ⟨rfl, q, rfl⟩ := he
    have hr : L.toArray.reverse = L.reverse.toArray := by simp
    rw [hr]
    exact ⟨rfl, own_put h (by rw [List.length_reverse, hn]) q, grown_put _ q⟩

end Go.Proofs.Ytncbhnmhaoblaaa
