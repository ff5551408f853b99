/-
  Words and contracts that the proof leans on.
-/
import Derived.Test.YthpinbmimgojnaaM13
import Derived.Test.YthpinbmimgojnaaM2
import Derived.Test.YthpinbmimgojnaaM15
import Derived.BigRegion
import Derived.Deep.DeepCutAuto
import Derived.Deep.QuietTactic
import Derived.BigQuiet
namespace Go.Proofs.Ythpinbmimgojnaa
open Go.RowKit

/-- Blocks that are told may turn, all others stay. -/
structure Kp (S : Nat → Prop) (w w' : World) : Prop where
  os : w'.os = w.os
  tape : w'.tape = w.tape
  output : w'.output = w.output
  size : w.heap.size ≤ w'.heap.size
  block : ∀ k, k < w.heap.size → ¬ S k → w'.heap[k]? = w.heap[k]?
section
variable {S S' : Nat → Prop} {w w1 w2 : World}
theorem Kp.refl (S : Nat → Prop) (w : World) : Kp S w w := ⟨rfl, rfl, rfl, Nat.le_refl _, fun _ _ _ => rfl⟩
theorem Kp.trans (h : Kp S w w1) (k : Kp S w1 w2) : Kp S w w2 :=
  ⟨k.os.trans h.os, k.tape.trans h.tape, k.output.trans h.output, Nat.le_trans h.size k.size, fun i hi hS => (k.block i (Nat.lt_of_lt_of_le hi h.size) hS).trans (h.block i hi hS)⟩
theorem Kp.mono (h : Kp S w w1) (e : ∀ k, S k → S' k) : Kp S' w w1 := ⟨h.os, h.tape, h.output, h.size, fun k hk hS => h.block k hk (fun hs => hS (e k hs))⟩
theorem Kp.of_below (S : Nat → Prop) (h : Below w.heap.size w w1) : Kp S w w1 := ⟨h.os, h.tape, h.output, h.size, fun k hk _ => h.block k hk⟩
theorem Kp.of_grown {g : Nat} (h : w.grownBy w1 (some g)) (hg : S g) : Kp S w w1 := ⟨h.os, h.tape, h.output, h.size, fun k hk hS => h.block k hk (fun e => hS (by injection e with e; rw [e]; exact hg))⟩
theorem Kp.drewN (h : Kp S w w1) (q : Nat) : Kp S w (w1.drewN q) := ⟨h.os, h.tape, h.output, h.size, h.block⟩
theorem Kp.setCell (h : Kp S w w1) {a : Addr} (ha : S a.block) (v : Value) : Kp S w (w1.setCell a v) :=
  ⟨h.os, h.tape, h.output, by simpa using h.size, fun k hk hS => (Below.heap_setCell w1 a v k (fun e => hS (e ▸ ha))).trans (h.block k hk hS)⟩
theorem Kp.below (h : Kp S w w1) {B : Nat} (hB : ∀ k, S k → B ≤ k) (hs : B ≤ w.heap.size) : Below B w w1 :=
  ⟨h.os, h.tape, h.output, h.size, fun k hk => h.block k (by omega) (fun hS => by have := hB k hS; omega)⟩
theorem Kp.rowIs (h : Kp S w w1) {b n : Nat} {t : TypeId} {f : Nat → Value} (hr : w.rowIs b t n f) (hb : ¬ S b) : w1.rowIs b t n f := hr.of_block (h.block b hr.lt hb)
end

def cv5 (x y z u v : Value) : Nat → Value
  | 0 => x
  | 1 => y
  | 2 => z
  | 3 => u
  | _ => v
theorem cv5_cases {P : Nat → Prop} (h0 : P 0) (h1 : P 1) (h2 : P 2) (h3 : P 3) (h4 : P 4) (i : Nat) (hi : i < 5) : P i := by
  have : i = 0 ∨ i = 1 ∨ i = 2 ∨ i = 3 ∨ i = 4 := by omega
  rcases this with rfl | rfl | rfl | rfl | rfl <;> assumption

theorem rowIs_ne {w : World} {b b' n n' : Nat} {t t' : TypeId} {f f' : Nat → Value} (h : w.rowIs b t n f) (h' : w.rowIs b' t' n' f') (hne : t ≠ t') : b ≠ b' := by
  rintro rfl
  obtain ⟨c, h1, _⟩ := h
  obtain ⟨c', h2, _⟩ := h'
  rw [h1] at h2
  simp only [Option.some.injEq, Obj.cells.injEq] at h2
  exact hne h2.2.1

theorem Kp.cell {S : Nat → Prop} {w w' : World} (h : Kp S w w') {a : Addr} {v : Value} (hc : w.cell? a = some v) (hS : ¬ S a.block) : w'.cell? a = some v :=
  (World.cell?_of_block (w := w) (h.block a.block (World.block_lt_of_cell? _ _ hc) hS)).trans hc

/-- Block R has the bits b in N words, bit 0 for diagonal -P. -/
def BitR (R N : Nat) (P : Int) (b : Int → Bool) (w : World) : Prop :=
  ∃ u : Nat → Nat, w.rowIs R 55 N (fun t => .int .u64 (u t : Nat)) ∧ (∀ t, u t < 18446744073709551616) ∧ ∀ s, s < 64 * N → (u (s / 64)).testBit (s % 64) = b ((s : Int) - P)
section
variable {R N : Nat} {P : Int} {b b' : Int → Bool} {w w' : World} {S : Nat → Prop}
theorem BitR.kept (h : BitR R N P b w) (hk : Kp S w w') (hR : ¬ S R) : BitR R N P b w' := by
  obtain ⟨u, h1, h2, h3⟩ := h
  exact ⟨u, hk.rowIs h1 hR, h2, h3⟩
theorem BitR.lt (h : BitR R N P b w) : R < w.heap.size := by
  obtain ⟨u, h1, _⟩ := h
  exact World.rowIs.lt h1
theorem BitR.congr (h : BitR R N P b w) (e : ∀ κ, b κ = b' κ) : BitR R N P b' w := by
  obtain ⟨u, h1, h2, h3⟩ := h
  exact ⟨u, h1, h2, fun s hs => by rw [h3 s hs, e]⟩
theorem BitR.new (w : World) (N : Nat) (P : Int) : BitR w.heap.size N P (fun _ => false) (w.alloc (.cells (madeCells #[.int .u64 0] N) 55)) :=
  ⟨fun _ => 0, World.rowIs_made w _ N _, fun _ => (by decide : 0 < 18446744073709551616), fun s _ => by simp⟩
/-- One bit more. -/
theorem bit_set {u : Nat → Nat} {q r : Nat} (hr : w.rowIs R 55 N (fun t => .int .u64 (u t : Nat))) (hu : ∀ t, u t < 18446744073709551616) (hb : ∀ s, s < 64 * N → (u (s / 64)).testBit (s % 64) = b ((s : Int) - P)) (h64 : r < 64) {k : Int} (hk : k + P = ((64 * q + r : Nat) : Int)) :
    BitR R N P (fun κ => if κ = k then true else b κ) (w.setCell ⟨R, q, none⟩ (.int .u64 ((u q ||| 2 ^ r : Nat) : Int))) := by
  refine ⟨fun t => if t = q then u q ||| 2 ^ r else u t, (World.rowIs.set hr q _).congr fun t _ => ?_, fun t => ?_, fun s hs => ?_⟩
  · by_cases e : t = q
    · simp only [if_pos e]
    · simp only [if_neg e]
  · by_cases e : t = q
    · simp only [if_pos e]
      exact Nat.or_lt_two_pow (n := 64) (hu q) (Nat.pow_lt_pow_right (by decide) h64)
    · simp only [if_neg e]
      exact hu t
  · by_cases e : s / 64 = q
    · simp only [if_pos e]
      rw [Nat.testBit_or, ← e, hb s hs, Nat.testBit_two_pow]
      by_cases e2 : r = s % 64
      · rw [if_pos (by omega)]
        simp [e2]
      · rw [if_neg (by omega)]
        simp [e2]
    · simp only [if_neg e]
      rw [hb s hs, if_neg (by omega)]
end

theorem row_not_own {w : World} {hi n R N : Nat} {v : Value} {us : List Value} {f : Nat → Value} (h : w.ownsRow hi 41 1 v n us) (hr : w.rowIs R 55 N f) : some R ≠ v.ownBlock := by
  rcases h.2 with ⟨rfl, _⟩ | ⟨g, cap, cur, rfl, _, hh, _⟩
  · simp [Value.ownBlock]
  · intro he
    have : R = g := by simpa [Value.ownBlock] using he
    subst this
    obtain ⟨c, h1, _⟩ := hr
    rw [h1] at hh
    simp only [Option.some.injEq, Obj.cells.injEq] at hh
    have := hh.2.1
    revert this
    decide
theorem own_kept {w w' : World} {hi n sz : Nat} {e : TypeId} {v : Value} {us : List Value} {S : Nat → Prop} (h : w.ownsRow hi e sz v n us) (hk : Kp S w w') (hS : ∀ k, hi ≤ k → k < w.heap.size → ¬ S k) : w'.ownsRow hi e sz v n us := by
  refine ⟨h.1, ?_⟩
  rcases h.2 with h0 | ⟨g, cap, cur, hv, hg, hh, r⟩
  · exact .inl h0
  · have hgs := (Array.getElem?_eq_some_iff.1 hh).1
    exact .inr ⟨g, cap, cur, hv, hg, by rw [hk.block g hgs (hS g hg hgs)]; exact hh, r⟩
theorem Kp.of_app {S : Nat → Prop} {w w' : World} {o : Obj} {b : Option Nat} (h : (w.alloc o).grownBy w' b) (hb : ∀ k, b = some k → S k) : Kp S w w' :=
  ⟨h.os, h.tape, h.output, by have := h.size; simp at this; omega, fun k hk hS => (h.block k (by simp; omega) (fun e => hS (hb k e.symm))).trans (Below.heap_alloc w o k hk)⟩
theorem Kp.alloc {S : Nat → Prop} {w w' : World} (h : Kp S w w') (o : Obj) : Kp S w (w'.alloc o) :=
  ⟨h.os, h.tape, h.output, by have := h.size; simp; omega, fun k hk hS => (Below.heap_alloc w' o k (by have := h.size; omega)).trans (h.block k hk hS)⟩

theorem Try.infoWay : (Try.prog.info? 41).map (fun i => (i.zero, i.size, i.bytes)) = some (some (.slice none 0 0), 1, 24) := by kernel_rfl
theorem Try.infoWord : (Try.prog.info? 55).map (fun i => (i.zero, i.size, i.bytes)) = some (some (.int .u64 0), 1, 8) := by kernel_rfl

end Go.Proofs.Ythpinbmimgojnaa
