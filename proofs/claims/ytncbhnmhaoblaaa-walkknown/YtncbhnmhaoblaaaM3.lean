/-
  Words and contracts that the proof leans on.
-/
import Derived.Test.YtncbhnmhaoblaaaM2
import Derived.Deep.RegionLaw
namespace Go.Proofs.Ytncbhnmhaoblaaa
open Go.RowKit

theorem Row.take {w : World} {A : Option Addr} {us : List Value} (h : Row w A us) (k : Nat) : Row w A (us.take k) := fun hne => by
  obtain ⟨g, o, e, hc⟩ := h (by intro e; rw [e] at hne; simp at hne)
  refine ⟨g, o, e, fun i u hu => hc i u ?_⟩
  rw [List.getElem?_take] at hu
  split at hu
  · exact hu
  · cases hu
theorem Row.drop {w : World} {A : Option Addr} {us : List Value} (h : Row w A us) (k : Nat) : Row w (Option.map (fun x => x.add k) A) (us.drop k) := fun hne => by
  obtain ⟨g, o, e, hc⟩ := h (by intro e; rw [e] at hne; simp at hne)
  subst e
  refine ⟨g, o + k, by simp [Addr.add_lit], fun i u hu => ?_⟩
  rw [List.getElem?_drop] at hu
  have := hc (k + i) u hu
  rwa [← Nat.add_assoc] at this

theorem Row.alloc {w : World} {A : Option Addr} {us : List Value} (h : Row w A us) (o : Obj) : Row (w.alloc o) A us := h.below ((Below.refl _ _).alloc (Nat.le_refl _) o)
theorem Row.drew {w : World} {A : Option Addr} {us : List Value} (h : Row w A us) : Row w.drew A us := h
theorem Row.grown {w w' : World} {A : Option Addr} {us : List Value} {b : Option Nat} (h : Row w A us) (hg : w.grownBy w' b) (hne : ∀ a, A = some a → some a.block ≠ b) : Row w' A us := fun hn => by
  obtain ⟨g, o, e, hc⟩ := h hn
  exact ⟨g, o, e, fun i u hu => hg.cell (hc i u hu) (show some g ≠ b from hne ⟨g, o, none⟩ e)⟩
theorem below_drew {B : Nat} {a w : World} (h : Below B a w) : Below B a w.drew := below_drewN h 1

theorem below_alloc2 (w : World) (o o' : Obj) : Below w.heap.size w ((w.alloc o).alloc o') := ((Below.refl _ _).alloc (Nat.le_refl _) _).alloc (by simp) _

end Go.Proofs.Ytncbhnmhaoblaaa

namespace Go.Proofs.Ytncbhnmhaoblaaa

/-- A word that is not zero, and its place. -/
abbrev PtMkP := Nat × Nat
/-- Word q of the mask that has these. -/
def fillP (ps : List PtMkP) (q : Nat) : Nat := ps.foldl (fun acc p => if q = p.1 then p.2 else acc) 0
theorem fillP_snoc (ps : List PtMkP) (p : PtMkP) (q : Nat) : fillP (ps ++ [p]) q = if q = p.1 then p.2 else fillP ps q := by simp [fillP, List.foldl_append]
theorem list_end {α : Type} (l : List α) : l = [] ∨ ∃ r x, l = r ++ [x] := by
  rcases List.eq_nil_or_concat l with h | ⟨r, x, h⟩
  · exact .inl h
  · exact .inr ⟨r, x, by rw [h, List.concat_eq_append]⟩
theorem fillP_out {q : Nat} : ∀ (n : Nat) (ps : List PtMkP), ps.length = n → (∀ p ∈ ps, p.1 ≠ q) → fillP ps q = 0
  | 0, ps, h, _ => by rw [List.eq_nil_of_length_eq_zero h]; rfl
  | n + 1, ps, h, ho => by
    rcases list_end ps with rfl | ⟨r, x, rfl⟩
    · rfl
    · rw [fillP_snoc, if_neg (fun e => ho x (by simp) e.symm)]
      exact fillP_out n r (by simpa using h) (fun p hp => ho p (by simp [hp]))
theorem fillP_lt {q : Nat} : ∀ (n : Nat) (ps : List PtMkP), ps.length = n → (∀ p ∈ ps, p.2 < 18446744073709551616) → fillP ps q < 18446744073709551616
  | 0, ps, h, _ => by rw [List.eq_nil_of_length_eq_zero h]; exact (by decide : 0 < 18446744073709551616)
  | n + 1, ps, h, ho => by
    rcases list_end ps with rfl | ⟨r, x, rfl⟩
    · exact (by decide : 0 < 18446744073709551616)
    · rw [fillP_snoc]
      split
      · exact ho x (by simp)
      · exact fillP_lt n r (by simpa using h) (fun p hp => ho p (by simp [hp]))

/-- The words that are not zero of the bits g below J. -/
structure Parts (ps : List PtMkP) (J : Nat) (g : Nat → Bool) : Prop where
  up : ps.Pairwise (fun p q => p.1 < q.1)
  lo : ∀ p ∈ ps, p.1 * 64 < J
  wd : ∀ p ∈ ps, p.2 < 18446744073709551616
  bits : ∀ j, (fillP ps (j / 64)).testBit (j % 64) = (decide (j < J) && g j)
  len : ps.length ≤ J

theorem Parts.none (g : Nat → Bool) : Parts [] 0 g := ⟨List.Pairwise.nil, by simp, by simp, fun j => by simp [fillP], Nat.le_refl _⟩
theorem Parts.skip {ps : List PtMkP} {J : Nat} {g : Nat → Bool} (h : Parts ps J g) (hg : g J = false) : Parts ps (J + 1) g := by
  refine ⟨h.up, fun p hp => Nat.lt_succ_of_lt (h.lo p hp), h.wd, fun j => ?_, Nat.le_succ_of_le h.len⟩
  rw [h.bits j]
  by_cases e : j = J
  · subst e
    simp [hg]
  · congr 1
    simp only [decide_eq_decide]
    omega
theorem pow_lt64 (J : Nat) : 2 ^ (J % 64) < 18446744073709551616 := show 2 ^ (J % 64) < 2 ^ 64 from Nat.pow_lt_pow_right (by decide) (Nat.mod_lt _ (by decide))
theorem Parts.same {qs : List PtMkP} {u J : Nat} {g : Nat → Bool} (h : Parts (qs ++ [(J / 64, u)]) J g) (hg : g J = true) : Parts (qs ++ [(J / 64, u ||| 2 ^ (J % 64))]) (J + 1) g := by
  have hu : u < 18446744073709551616 := h.wd (J / 64, u) (by simp)
  refine ⟨?_, fun p hp => ?_, fun p hp => ?_, fun j => ?_, by have := h.len; simp at this ⊢; omega⟩
  · have := h.up
    rw [List.pairwise_append] at this ⊢
    exact ⟨this.1, by simp, fun a ha b hb => by
      simp at hb
      subst hb
      exact this.2.2 a ha (J / 64, u) (by simp)⟩
  · rcases List.mem_append.1 hp with hp | hp
    · exact Nat.lt_succ_of_lt (h.lo p (by simp [hp]))
    · simp at hp
      subst hp
      show J / 64 * 64 < J + 1
      omega
  · rcases List.mem_append.1 hp with hp | hp
    · exact h.wd p (by simp [hp])
    · simp at hp
      subst hp
      exact Nat.or_lt_two_pow (n := 64) hu (pow_lt64 J)
  · have hb := h.bits j
    rw [fillP_snoc] at hb ⊢
    simp only at hb ⊢
    by_cases e : j / 64 = J / 64
    · rw [if_pos e] at hb ⊢
      rw [Nat.testBit_or, Nat.testBit_two_pow, hb]
      by_cases e' : j = J
      · subst e'
        simp [hg]
      · have h1 : decide (J % 64 = j % 64) = false := by simp; omega
        have h2 : decide (j < J + 1) = decide (j < J) := by simp only [decide_eq_decide]; omega
        rw [h1, h2, Bool.or_false]
    · rw [if_neg e] at hb ⊢
      rw [hb]
      have h2 : decide (j < J + 1) = decide (j < J) := by
        simp only [decide_eq_decide]
        have : j ≠ J := fun e' => e (by rw [e'])
        omega
      rw [h2]
theorem Parts.new {ps : List PtMkP} {J : Nat} {g : Nat → Bool} (h : Parts ps J g) (hl : ∀ qs p, ps = qs ++ [p] → p.1 ≠ J / 64) (hg : g J = true) : Parts (ps ++ [(J / 64, 2 ^ (J % 64))]) (J + 1) g := by
  have below : ∀ p ∈ ps, p.1 < J / 64 := by
    rcases list_end ps with rfl | ⟨qs, l, rfl⟩
    · simp
    · have hl1 := hl qs l rfl
      have hl2 := h.lo l (by simp)
      have hl3 : l.1 < J / 64 := by omega
      intro p hp
      rcases List.mem_append.1 hp with hp | hp
      · have := (List.pairwise_append.1 h.up).2.2 p hp l (by simp)
        omega
      · simp at hp
        subst hp
        exact hl3
  refine ⟨?_, fun p hp => ?_, fun p hp => ?_, fun j => ?_, by have := h.len; simp at this ⊢; omega⟩
  · rw [List.pairwise_append]
    exact ⟨h.up, by simp, fun a ha b hb => by
      simp at hb
      subst hb
      exact below a ha⟩
  · rcases List.mem_append.1 hp with hp | hp
    · exact Nat.lt_succ_of_lt (h.lo p hp)
    · simp at hp
      subst hp
      show J / 64 * 64 < J + 1
      omega
  · rcases List.mem_append.1 hp with hp | hp
    · exact h.wd p hp
    · simp at hp
      subst hp
      exact pow_lt64 J
  · have hb := h.bits j
    rw [fillP_snoc]
    simp only
    by_cases e : j / 64 = J / 64
    · rw [if_pos e, Nat.testBit_two_pow]
      rw [fillP_out _ ps rfl (fun p hp => by have := below p hp; omega)] at hb
      rw [Nat.zero_testBit] at hb
      by_cases e' : j = J
      · subst e'
        simp [hg]
      · have h1 : decide (J % 64 = j % 64) = false := by simp; omega
        have h2 : decide (j < J + 1) = decide (j < J) := by simp only [decide_eq_decide]; omega
        rw [h1, h2, hb]
    · rw [if_neg e, hb]
      have h2 : decide (j < J + 1) = decide (j < J) := by
        simp only [decide_eq_decide]
        have : j ≠ J := fun e' => e (by rw [e'])
        omega
      rw [h2]

/-! The cells of such words. -/
def ptvMkP (ps : List PtMkP) : List Value := ps.flatMap fun p => [.int .i64 (p.1 : Int), .int .u64 (p.2 : Int)]
theorem ptv_appendMkP (l r : List PtMkP) : ptvMkP (l ++ r) = ptvMkP l ++ ptvMkP r := by simp [ptvMkP]
theorem ptv_one (p : PtMkP) : ptvMkP [p] = [.int .i64 (p.1 : Int), .int .u64 (p.2 : Int)] := rfl
theorem ptv_cons (p : PtMkP) (l : List PtMkP) : ptvMkP (p :: l) = .int .i64 (p.1 : Int) :: .int .u64 (p.2 : Int) :: ptvMkP l := rfl
theorem ptv_lengthMkP : ∀ l : List PtMkP, (ptvMkP l).length = l.length * 2
  | [] => rfl
  | p :: l => by rw [ptv_cons, List.length_cons, List.length_cons, ptv_lengthMkP l, List.length_cons]; omega
theorem ptv_get : ∀ (l : List PtMkP) (k : Nat) (hk : k < l.length), (ptvMkP l)[k * 2]? = some (.int .i64 (l[k].1 : Int)) ∧ (ptvMkP l)[k * 2 + 1]? = some (.int .u64 (l[k].2 : Int))
  | [], k, hk => absurd hk (by simp)
  | p :: l, 0, _ => by rw [ptv_cons]; simp
  | p :: l, k + 1, hk => by
    have := ptv_get l k (by simpa using hk)
    rw [ptv_cons, show (k + 1) * 2 = k * 2 + 1 + 1 by omega]
    simpa using this
theorem Row.part {w : World} {A : Option Addr} {l : List PtMkP} (h : Row w A (ptvMkP l)) {k : Nat} (hk : k < l.length) :
    ∃ g o, A = some ⟨g, o, none⟩ ∧ w.cell? ⟨g, o + k * 2, none⟩ = some (.int .i64 (l[k].1 : Int)) ∧ w.cell? ⟨g, o + k * 2 + 1, none⟩ = some (.int .u64 (l[k].2 : Int)) := by
  obtain ⟨g, o, e, hc⟩ := h (by intro e; have := ptv_lengthMkP l; rw [e] at this; simp at this; omega)
  obtain ⟨h1, h2⟩ := ptv_get l k hk
  exact ⟨g, o, e, hc _ _ h1, by rw [Nat.add_assoc]; exact hc _ _ h2⟩

/-! Lists that rise. -/
end Go.Proofs.Ytncbhnmhaoblaaa

namespace Go.Proofs.Ytncbhnmhaoblaaa
open Go.RowKit

/-- An int64. -/
def I64 (n : Int) : Prop := -9223372036854775808 ≤ n ∧ n ≤ 9223372036854775807
theorem i64_small {n : Int} (h : -1000000000 ≤ n ∧ n ≤ 1000000000) : I64 n := ⟨by omega, by omega⟩
theorem Yes.of {w w' : World} (h : Below w.heap.size w w') : Yes w (.returned (.bool true)) w' := ⟨rfl, h⟩
theorem below_drawn {w0 w w' : World} {B q : Nat} (hq : w' = w.drewN q) (h : Below B w0 w) : Below B w0 w' := by subst hq; exact below_drewN h q
theorem below_go {w w1 w2 : World} (h : Below w.heap.size w w1) (h2 : Below w1.heap.size w1 w2) : Below w.heap.size w w2 := h.trans (h2.mono h.size)
theorem below_a1 (w : World) (o : Obj) : Below w.heap.size w (w.alloc o) := (Below.refl _ _).alloc (Nat.le_refl _) _

end Go.Proofs.Ytncbhnmhaoblaaa

namespace Go.Proofs.Ytncbhnmhaoblaaa
open Go.RowKit

theorem row_lit {w : World} (cs : List Value) (t : TypeId) {b : Nat} (hb : w.heap.size = b) : Row (w.alloc (.cells cs.toArray t)) (some ⟨b, 0, none⟩) cs := by
  subst hb
  exact Row.new w cs t (0, 0)
theorem below_of {w w' : World} {q : Nat} (h : w' = w.drewN q) : Below w.heap.size w w' := below_drawn h (Below.refl _ _)
theorem below_al {w w' : World} (h : Below w.heap.size w w') (o : Obj) : Below w.heap.size w (w'.alloc o) := h.alloc h.size o

end Go.Proofs.Ytncbhnmhaoblaaa

namespace Go.Proofs.Ytncbhnmhaoblaaa

end Go.Proofs.Ytncbhnmhaoblaaa
