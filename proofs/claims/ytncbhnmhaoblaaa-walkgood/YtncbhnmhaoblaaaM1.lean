/-
  Words and contracts that the proof leans on.
-/
import Derived.WalkKit
import Derived.WalkSpells
import Derived.WalkLawsBesides
import Derived.Below
import Derived.Laws.OwnMore
import Derived.Laws.CopyOwn
import Derived.Laws.AppendOwnNone
import Derived.Laws.BytesArg
import Derived.Deep.Draws
import Derived.Lib.Hide
namespace Go.Proofs.Ytncbhnmhaoblaaa
open Go.RowKit

theorem below_drewN {B : Nat} {a w : World} (h : Below B a w) (n : Nat) : Below B a (w.drewN n) := ⟨h.os, h.tape, h.output, h.size, h.block⟩

/-- The cells us lie at A, one behind the other (nothing is said where there are none). -/
def Row (w : World) (A : Option Addr) (us : List Value) : Prop :=
  us ≠ [] → ∃ g o, A = some ⟨g, o, none⟩ ∧ ∀ (i : Nat) u, us[i]? = some u → w.cell? ⟨g, o + i, none⟩ = some u

theorem Row.nil (w : World) (A : Option Addr) : Row w A [] := fun h => absurd rfl h

theorem Row.at_ {w : World} {A : Option Addr} {us : List Value} (h : Row w A us) (k : Nat) (hk : k < us.length) :
    ∃ g o, A = some ⟨g, o, none⟩ ∧ w.cell? ⟨g, o + k, none⟩ = some us[k] := by
  obtain ⟨g, o, e, hc⟩ := h (by intro e; simp [e] at hk)
  exact ⟨g, o, e, hc k _ (List.getElem?_eq_getElem hk)⟩

/-- Nothing that was there has turned: the row is still there. -/
theorem Row.below {w w' : World} {A : Option Addr} {us : List Value} (h : Row w A us) (hb : Below w.heap.size w w') : Row w' A us := fun hne => by
  obtain ⟨g, o, e, hc⟩ := h hne
  refine ⟨g, o, e, fun i u hu => ?_⟩
  have hx := hc i u hu
  exact (hb.cell (p := ⟨g, o + i, none⟩) (World.block_lt_of_cell? w _ hx)).trans hx

theorem Row.cells {w w' : World} {A : Option Addr} {us : List Value} (h : Row w A us) (hk : ∀ a u, w.cell? a = some u → w'.cell? a = some u) : Row w' A us := fun hne => by
  obtain ⟨g, o, e, hc⟩ := h hne
  exact ⟨g, o, e, fun i u hu => hk _ _ (hc i u hu)⟩

theorem Row.cut {w : World} {A : Option Addr} {us : List Value} (h : Row w A us) (lo hi cap : Nat) (hlo : lo ≤ hi) (hhi : hi ≤ us.length) (hcap : us.length ≤ cap) :
    Row w (if cap = lo then A else A.map (·.add lo)) ((us.drop lo).take (hi - lo)) := fun hne => by
  have hlt : lo < hi := by
    rcases Nat.lt_or_ge lo hi with hx | hx
    · exact hx
    · exact absurd (by rw [show hi - lo = 0 by omega, List.take_zero]) hne
  obtain ⟨g, o, e, hc⟩ := h (by intro e; rw [e] at hhi; simp at hhi; omega)
  subst e
  rw [if_neg (by omega)]
  refine ⟨g, o + lo, by simp [Addr.add_lit], fun i u hu => ?_⟩
  rw [List.getElem?_take] at hu
  split at hu
  · rw [List.getElem?_drop] at hu
    have := hc (lo + i) u hu
    rwa [← Nat.add_assoc] at this
  · cases hu

theorem Row.of_own {w : World} {base : Nat} {e : TypeId} {A : Option Addr} {n c : Nat} {us : List Value} (h : w.ownsRow base e 1 (.slice A n c) n us) : Row w A us := fun hne => by
  rcases h.2 with ⟨_, h0⟩ | ⟨g, cap, cur, hv, _⟩
  · exact absurd (List.eq_nil_of_length_eq_zero (by rw [h.1, h0])) hne
  · have hA : A = some ⟨g, 0, none⟩ := by injection hv
    subst hA
    refine ⟨g, 0, rfl, fun i u hu => ?_⟩
    have := h.cells (g := g) rfl i u hu
    simpa [Addr.add_lit] using this

/-- A new block, of cells that are known. -/
theorem Row.new (w : World) (cs : List Value) (t : TypeId) (mk : Nat × Nat) : Row (w.alloc (.cells cs.toArray t mk)) (some ⟨w.heap.size, 0, none⟩) cs := fun _ =>
  ⟨w.heap.size, 0, rfl, fun i u hu => by
    have hh : (w.alloc (.cells cs.toArray t mk)).heap[w.heap.size]? = some (.cells cs.toArray t mk) := by
      show (w.heap.push (.cells cs.toArray t mk))[w.heap.size]? = _
      simp
    simp only [World.cell?, hh]
    simpa using hu⟩

/-- Bytes as values. -/
def bv (l : List UInt8) : List Value := l.map fun b => Value.int .u8 (b.toNat : Int)
/-- v is a byte slice that reads l. -/
def BS (w : World) (v : Value) (l : List UInt8) : Prop := ∃ A c, v = .slice A l.length c ∧ l.length ≤ c ∧ c ≤ maxLen ∧ Row w A (bv l) ∧ (A = none → c = 0)
theorem BS.below {w w' : World} {v : Value} {l : List UInt8} (h : BS w v l) (hb : Below w.heap.size w w') : BS w' v l := by
  obtain ⟨A, c, rfl, h1, h2, h3, h4⟩ := h
  exact ⟨A, c, rfl, h1, h2, h3.below hb, h4⟩
theorem BS.cells {w w' : World} {v : Value} {l : List UInt8} (h : BS w v l) (hk : ∀ a u, w.cell? a = some u → w'.cell? a = some u) : BS w' v l := by
  obtain ⟨A, c, rfl, h1, h2, h3, h4⟩ := h
  exact ⟨A, c, rfl, h1, h2, h3.cells hk, h4⟩

/-- The values vs are byte slices that read ls. -/
def BSs (w : World) (vs : List Value) (ls : List (List UInt8)) : Prop := vs.length = ls.length ∧ ∀ (i : Nat) v l, vs[i]? = some v → ls[i]? = some l → BS w v l
theorem BSs.below {w w' : World} {vs : List Value} {ls : List (List UInt8)} (h : BSs w vs ls) (hb : Below w.heap.size w w') : BSs w' vs ls :=
  ⟨h.1, fun i v l hv hl => (h.2 i v l hv hl).below hb⟩
theorem BSs.cells {w w' : World} {vs : List Value} {ls : List (List UInt8)} (h : BSs w vs ls) (hk : ∀ a u, w.cell? a = some u → w'.cell? a = some u) : BSs w' vs ls :=
  ⟨h.1, fun i v l hv hl => (h.2 i v l hv hl).cells hk⟩
theorem BSs.nil (w : World) : BSs w [] [] := ⟨rfl, fun i v l hv => by simp at hv⟩
theorem BSs.get {w : World} {vs : List Value} {ls : List (List UInt8)} (h : BSs w vs ls) {k : Nat} (hk : k < ls.length) : BS w (vs[k]'(by rw [h.1]; exact hk)) ls[k] :=
  h.2 k _ _ (List.getElem?_eq_getElem _) (List.getElem?_eq_getElem _)

/-- A slice's cell that holds a byte slice, as the walk asks for it. -/
theorem BSs.cell {w : World} {A : Option Addr} {vs : List Value} {ls : List (List UInt8)} (hr : Row w A vs) (h : BSs w vs ls) {k : Nat} (hk : k < ls.length) :
    ∃ g o A' c', A = some ⟨g, o, none⟩ ∧ w.cell? ⟨g, o + k, none⟩ = some (.slice A' ls[k].length c') ∧ ls[k].length ≤ c' ∧ c' ≤ maxLen ∧ Row w A' (bv ls[k]) ∧ (A' = none → c' = 0) := by
  obtain ⟨g, o, e, hc⟩ := hr.at_ k (by rw [h.1]; exact hk)
  obtain ⟨A', c', e', h1, h2, h3, h4⟩ := h.get hk
  exact ⟨g, o, A', c', e, by rw [hc, e'], h1, h2, h3, h4⟩

theorem Row.drewN {w : World} {A : Option Addr} {us : List Value} (h : Row w A us) (q : Nat) : Row (w.drewN q) A us := h
theorem BSs.drewN {w : World} {vs : List Value} {ls : List (List UInt8)} (h : BSs w vs ls) (q : Nat) : BSs (w.drewN q) vs ls := h

end Go.Proofs.Ytncbhnmhaoblaaa

namespace Go.Proofs.Ytncbhnmhaoblaaa

section
variable {E : Nat → Nat → Bool} {T L : Nat → Nat}
end

section
variable (t eq top left : Nat)
end
end Go.Proofs.Ytncbhnmhaoblaaa

namespace Go.Proofs.Ytncbhnmhaoblaaa

/-- The multiples from 1 on below n. -/
def mulL (e : Nat) : Nat → List Int
  | 0 => []
  | n + 1 => mulL e n ++ if 1 ≤ n ∧ n % e = 0 then [(n : Int)] else []
/-- The rows that are kept. -/
def keptL (e n : Nat) : List Int := 0 :: mulL e n
/-- The same, reckoned. -/
def keptQ (e n : Nat) : List Int := (List.range ((n - 1) / e + 1)).map fun k => ((k * e : Nat) : Int)
theorem mulL_is {e : Nat} (he : 1 ≤ e) : ∀ n, mulL e n = (List.range ((n - 1) / e)).map fun k => (((k + 1) * e : Nat) : Int)
  | 0 => by simp [mulL, Nat.div_eq_of_lt (show 0 < e by omega)]
  | 1 => by simp [mulL, Nat.div_eq_of_lt (show 0 < e by omega)]
  | n + 2 => by
    show mulL e (n + 1) ++ _ = _
    rw [mulL_is he (n + 1), show n + 2 - 1 = n + 1 by omega, show n + 1 - 1 = n by omega]
    have hd := Nat.div_add_mod n e
    have hm := Nat.mod_lt n (show 0 < e by omega)
    generalize hq : n / e = q at *
    by_cases c : n % e + 1 = e
    · have h1 : (n + 1) / e = q + 1 := by
        rw [Nat.div_eq_iff (by omega)]
        have e1 : (q + 1) * e = e * q + e := by rw [Nat.mul_comm, Nat.mul_add, Nat.mul_one]
        omega
      have h2 : (n + 1) % e = 0 := by
        have := Nat.div_add_mod (n + 1) e
        rw [h1, Nat.mul_add, Nat.mul_one] at this
        omega
      rw [h1, if_pos ⟨by omega, h2⟩, List.range_succ, List.map_append]
      congr 1
      have e1 : (q + 1) * e = n + 1 := by rw [Nat.mul_comm, Nat.mul_add, Nat.mul_one]; omega
      simp only [List.map_cons, List.map_nil]
      rw [e1]
    · have h1 : (n + 1) / e = q := by
        rw [Nat.div_eq_iff (by omega)]
        have e1 : q * e = e * q := Nat.mul_comm _ _
        omega
      have h2 : ¬ (n + 1) % e = 0 := by
        have := Nat.div_add_mod (n + 1) e
        rw [h1] at this
        omega
      rw [h1, if_neg (fun h => h2 h.2), List.append_nil]
theorem kept_is {e : Nat} (he : 1 ≤ e) (n : Nat) : keptL e n = keptQ e n := by
  unfold keptL keptQ
  rw [mulL_is he, List.range_succ_eq_map, List.map_cons, List.map_map]
  simp only [Nat.zero_mul]
  rfl
theorem kept_len {e : Nat} (he : 1 ≤ e) (n : Nat) : (keptL e n).length = (n - 1) / e + 1 := by
  rw [kept_is he]
  unfold keptQ
  simp
theorem kept_at {e n k : Nat} (he : 1 ≤ e) (h : k ≤ (n - 1) / e) : (keptL e n)[k]? = some ((k * e : Nat) : Int) := by
  rw [kept_is he]
  unfold keptQ
  rw [List.getElem?_map, List.getElem?_range (by omega)]
  rfl
/-- The least number, at least 1, whose square is at least x. -/
def IsRoot (x r : Nat) : Prop := 1 ≤ r ∧ x ≤ r * r ∧ (r = 1 ∨ (r - 1) * (r - 1) < x)
theorem root_unique {x r s : Nat} (hr : IsRoot x r) (hs : IsRoot x s) : r = s := by
  obtain ⟨r1, r2, r3⟩ := hr
  obtain ⟨s1, s2, s3⟩ := hs
  rcases Nat.lt_trichotomy r s with h | h | h
  · exfalso
    rcases s3 with s3 | s3
    · omega
    · have := Nat.mul_le_mul (show r ≤ s - 1 by omega) (show r ≤ s - 1 by omega)
      omega
  · exact h
  · exfalso
    rcases r3 with r3 | r3
    · omega
    · have := Nat.mul_le_mul (show s ≤ r - 1 by omega) (show s ≤ r - 1 by omega)
      omega
/-- A search from below: where it stops it is the root. -/
theorem root_stop {x r : Nat} (h1 : 1 ≤ r) (h : x ≤ r * r) (hb : ∀ s, 1 ≤ s → s < r → s * s < x) : IsRoot x r :=
  ⟨h1, h, by
    by_cases e : r = 1
    · exact .inl e
    · exact .inr (hb (r - 1) (by omega) (by omega))⟩
end Go.Proofs.Ytncbhnmhaoblaaa
