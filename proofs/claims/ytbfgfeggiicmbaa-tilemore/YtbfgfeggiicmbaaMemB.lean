/-
  Bytes and lists of bytes that a call makes.
-/
import Derived.Test.YtbfgfeggiicmbaaMem
namespace Go.Proofs.Ytbfgfeggiicmbaa
open Go.RowKit

theorem Try.infoU8 : (Try.prog.info? 5).map (fun i => (i.zero, i.size, i.bytes)) = some (some (.int .u8 0), 1, 1) := by kernel_rfl
theorem Try.infoU8s : (Try.prog.info? 5).map (·.size) = some 1 := by kernel_rfl
theorem Try.infoBs : (Try.prog.info? 50).map (fun i => (i.zero, i.size, i.bytes)) = some (some (.slice none 0 0), 1, 24) := by kernel_rfl


/-- A byte slice that the call made: a row of its own from block B on. -/
def OwnB (B : Nat) (w : World) (v : Value) (l : List UInt8) : Prop := w.ownsRow B 5 1 v l.length (bv l)
theorem OwnB.form {B : Nat} {w : World} {v : Value} {l : List UInt8} (h : OwnB B w v l) : ∃ A c, v = .slice A l.length c ∧ l.length ≤ c ∧ c ≤ maxLen ∧ Row w A (bv l) ∧ (A = none → c = 0) := by
  rcases h.2 with ⟨e, h0⟩ | ⟨g, cap, cur, hv, _, _, h1, h2, _⟩
  · have hl : l = [] := List.eq_nil_of_length_eq_zero h0
    subst hl
    exact ⟨none, 0, by rw [e]; rfl, by simp, Nat.zero_le _, Row.nil _ _, fun _ => rfl⟩
  · subst hv
    exact ⟨_, cap, rfl, h1, h2, Row.of_own h, fun e => by cases e⟩
theorem OwnB.isSlice {B : Nat} {w : World} {v : Value} {l : List UInt8} (h : OwnB B w v l) : ∃ A n c, v = .slice A n c := by
  obtain ⟨A, c, e, _⟩ := h.form
  exact ⟨A, _, c, e⟩
theorem OwnB.bs {B : Nat} {w : World} {v : Value} {l : List UInt8} (h : OwnB B w v l) : BS w v l := h.form

/-- What a call leaves that returns new bytes. -/
def MadeB (l : List UInt8) (w : World) (e : Ending) (w' : World) : Prop := ∃ v, e = .returned v ∧ OwnB w.heap.size w' v l ∧ Below w.heap.size w w'

/-- A list of byte slices that the call made, each a row of its own. -/
def OwnBs (B : Nat) (w : World) (vs : List Value) (ls : List (List UInt8)) : Prop := vs.length = ls.length ∧ ∀ (i : Nat) v l, vs[i]? = some v → ls[i]? = some l → OwnB B w v l
theorem OwnBs.nil (B : Nat) (w : World) : OwnBs B w [] [] := ⟨rfl, fun i v l hv => by simp at hv⟩
theorem OwnBs.map {B B' : Nat} {w w' : World} {vs : List Value} {ls : List (List UInt8)} (h : OwnBs B w vs ls) (hk : ∀ v l, OwnB B w v l → OwnB B' w' v l) : OwnBs B' w' vs ls :=
  ⟨h.1, fun i v l hv hl => hk v l (h.2 i v l hv hl)⟩
theorem OwnBs.bss {B : Nat} {w : World} {vs : List Value} {ls : List (List UInt8)} (h : OwnBs B w vs ls) : BSs w vs ls := ⟨h.1, fun i v l hv hl => (h.2 i v l hv hl).bs⟩
theorem OwnBs.snoc {B : Nat} {w : World} {vs : List Value} {ls : List (List UInt8)} {v : Value} {l : List UInt8} (h : OwnBs B w vs ls) (hv : OwnB B w v l) : OwnBs B w (vs ++ [v]) (ls ++ [l]) := by
  refine ⟨by simp [h.1], fun i u m hu hm => ?_⟩
  rcases Nat.lt_or_ge i vs.length with hi | hi
  · rw [List.getElem?_append_left hi] at hu
    rw [List.getElem?_append_left (by rw [← h.1]; exact hi)] at hm
    exact h.2 i u m hu hm
  · rw [List.getElem?_append_right hi] at hu
    rw [List.getElem?_append_right (by rw [← h.1]; exact hi)] at hm
    have e0 : i - vs.length = 0 := by
      have := (List.getElem?_eq_some_iff.1 hu).1
      simpa using this
    rw [e0] at hu
    rw [← h.1, e0] at hm
    simp at hu hm
    subst hu; subst hm
    exact hv

end Go.Proofs.Ytbfgfeggiicmbaa
