/-
  Words and contracts that the proof leans on.
-/
import Derived.Test.YthpinbmimgojnaaRows
import Derived.Test.YthpinbmimgojnaaM1
import Derived.ProofKit
import Derived.OpenShut
import Derived.ShutString
import Derived.ChangeOld
import Derived.JoinedCond
import Derived.SizedLaws
import Derived.Deep.Matrix
namespace Go.Proofs.Ythpinbmimgojnaa
open Go.ChangeShapes Go.WideShapes Go.ChangeAt Go.RowKit

/-- A byte slice that came in: it reads l. -/
def ArgB (w : World) (A : Option Addr) (n c : Nat) (l : List UInt8) : Prop := l.length = n ∧ n ≤ c ∧ c ≤ maxLen ∧ Row w A (bv l) ∧ (A = none → c = 0)
theorem ArgB.below {w w' : World} {A : Option Addr} {n c : Nat} {l : List UInt8} (h : ArgB w A n c l) (hb : Below w.heap.size w w') : ArgB w' A n c l :=
  ⟨h.1, h.2.1, h.2.2.1, h.2.2.2.1.below hb, h.2.2.2.2⟩

theorem u8_bounds {n : Int} (h : (Lit.int .u8 n).wf = true) : 0 ≤ n ∧ n ≤ 255 := bounds_u8 h

theorem nums_bv (zs : List Int) (h : ∀ n ∈ zs, (Lit.int .u8 n).wf = true) : bv (zs.map fun z => UInt8.ofNat z.toNat) = zs.map (Value.int .u8) := by
  unfold bv
  rw [List.map_map]
  apply List.map_congr_left
  intro z hz
  have := u8_bounds (h z hz)
  simp only [Function.comp]
  have e : (UInt8.ofNat z.toNat).toNat = z.toNat := by
    rw [UInt8.toNat_ofNat']
    exact Nat.mod_eq_of_lt (by omega)
  rw [e]
  congr 1
  omega

/-- Cells that lie behind an address are a row. -/
theorem row_of_cells {w : World} {a : Addr} {us : List Value} (h : ∀ (i : Nat) u, us[i]? = some u → w.cell? (a.add i) = some u) : Row w (some a) us := fun hne => by
  obtain ⟨b, o, spot⟩ := a
  have h0 : 0 < us.length := by
    cases us with
    | nil => exact absurd rfl hne
    | cons => simp
  have hc := h 0 _ (List.getElem?_eq_getElem h0)
  have hspot : spot = none := by simpa [Addr.add] using World.cell?_spot hc
  subst hspot
  exact ⟨b, o, rfl, fun i u hu => by have := h i u hu; rwa [Addr.add_lit] at this⟩

theorem nums_arg {w : World} {a : Addr} {len : Nat} {zs : List Int} (hl : len ≤ zs.length) (hcell : ∀ i, i < zs.length → w.cell? (a.add i) = some (.int .u8 (zs.getD i 0))) (hwz : ∀ n ∈ zs, (Lit.int .u8 n).wf = true) :
    ∃ l : List UInt8, l.length = len ∧ Row w (some a) (bv l) := by
  refine ⟨(zs.take len).map fun z => UInt8.ofNat z.toNat, by simp [List.length_take]; omega, ?_⟩
  rw [nums_bv _ (fun n hn => hwz n (List.mem_of_mem_take hn))]
  refine row_of_cells fun i u hu => ?_
  rw [List.getElem?_map, List.getElem?_take] at hu
  split at hu
  · have hi : i < zs.length := by omega
    rw [hcell i hi]
    rw [List.getElem?_eq_getElem hi] at hu
    simp only [Option.map_some] at hu
    rw [← hu]
    simp [List.getD, List.getElem?_eq_getElem hi]
  · cases hu

section
variable {H : Type} {enc : TypeId × Value → H} {P : Program} {W : World}

theorem open_argB {t e : TypeId} {A : Option Addr} {n c : Nat} {d : DataW H} {p : List MemPlace} (ht : P.underlying t = some (.slice e)) (he : P.underlying e = some (.int .u8)) (ce : P.cellsOf e = 1)
    (h : DataW.Trod enc P W 0 (fun _ => true) true t (.slice A n c) d p) : ∃ l, ArgB W A n c l := by
  obtain ⟨fuel, hf⟩ := h
  rcases open_ints ht he ce hf with ⟨hcs, _⟩ | ⟨x, len, cap, zs, hcs, _, hl, hm, hz, _, hcell, hwz⟩
  · simp [Value.cells] at hcs
    obtain ⟨rfl, rfl, rfl⟩ := hcs
    exact ⟨[], rfl, Nat.le_refl _, Nat.zero_le _, Row.nil _ _, fun _ => rfl⟩
  · simp [Value.cells] at hcs
    obtain ⟨rfl, rfl, rfl⟩ := hcs
    simp only [if_true] at hz
    obtain ⟨l, h1, h2⟩ := nums_arg (len := n) (by omega) hcell hwz
    exact ⟨l, h1, hl, hm, h2, fun e => by cases e⟩

/-- A list of byte slices that came in: they read ls. -/
def ArgT (w : World) (A : Option Addr) (n c : Nat) (vs : List Value) (ls : List (List UInt8)) : Prop := ls.length = n ∧ n ≤ c ∧ c ≤ maxLen ∧ Row w A vs ∧ BSs w vs ls ∧ (A = none → c = 0)

/-- As data a list of byte slices has as many values, each of as many bytes. -/
def RowData (e : DataW H) (l : List UInt8) : Prop := l = [] ∨ ∃ es sp, e = .slice es sp ∧ es.length = l.length
def RowsData (d : DataW H) (ls : List (List UInt8)) : Prop := ls = [] ∨ ∃ es sp, d = .slice es sp ∧ es.length = ls.length ∧ ∀ (i : Nat) e l, es[i]? = some e → ls[i]? = some l → RowData e l

theorem open_argT {t e q : TypeId} {A : Option Addr} {n c : Nat} {d : DataW H} {p : List MemPlace} (ht : P.underlying t = some (.slice e)) (he : P.underlying e = some (.slice q)) (hq : P.underlying q = some (.int .u8)) (ce : P.cellsOf e = 1) (cq : P.cellsOf q = 1)
    (h : DataW.Trod enc P W 0 (fun _ => true) true t (.slice A n c) d p) : ∃ vs ls, ArgT W A n c vs ls ∧ RowsData d ls := by
  obtain ⟨fuel, hf⟩ := h
  rcases Deep.open_int_rows ht he hq ce cq hf with ⟨hcs, _⟩ | ⟨a, len, cap, B, L, C, Z, hcs, _, hl, hm, hx, hrow⟩
  · simp [Value.cells] at hcs
    obtain ⟨rfl, rfl, rfl⟩ := hcs
    exact ⟨[], [], ⟨rfl, Nat.le_refl _, Nat.zero_le _, Row.nil _ _, BSs.nil _, fun _ => rfl⟩, .inl rfl⟩
  · simp [Value.cells] at hcs
    obtain ⟨rfl, rfl, rfl⟩ := hcs
    simp only [Prod.mk.injEq] at hx
    have each : ∀ r, r < c → ∃ l : List UInt8, l.length = L r ∧ BS W (.slice (B r) (L r) (C r)) l := by
      intro r hr
      obtain ⟨_, h1, h2, h3, h4, h5, h6⟩ := hrow r hr
      cases hB : B r with
      | none =>
        have := h5 hB
        exact ⟨[], by simp; omega, none, C r, by simp; omega, by simp, h2, Row.nil _ _, fun _ => this⟩
      | some a' =>
        obtain ⟨l, e1, e2⟩ := nums_arg (len := L r) (by omega) (fun i hi => (h6 a' hB).2 i (by omega)) h4
        exact ⟨l, e1, some a', C r, by rw [e1], by omega, h2, e2, fun e => by cases e⟩
    obtain ⟨F, hF⟩ := Deep.choose_lt each
    refine ⟨(List.range n).map fun r => .slice (B r) (L r) (C r), (List.range n).map F, ⟨by simp, hl, hm, ?_, ?_, fun e => by cases e⟩, ?_⟩
    · refine row_of_cells fun i u hu => ?_
      rw [List.getElem?_map] at hu
      obtain ⟨r, hr, rfl⟩ := Option.map_eq_some_iff.1 hu
      obtain ⟨hi, rfl⟩ := List.getElem?_eq_some_iff.1 hr
      simp only [List.length_range] at hi
      rw [List.getElem_range]
      exact (hrow i (by omega)).1
    · refine ⟨by simp, fun i v l hv hl' => ?_⟩
      rw [List.getElem?_map] at hv hl'
      obtain ⟨r, hr, rfl⟩ := Option.map_eq_some_iff.1 hv
      obtain ⟨r', hr', rfl⟩ := Option.map_eq_some_iff.1 hl'
      obtain ⟨hi, rfl⟩ := List.getElem?_eq_some_iff.1 hr
      obtain ⟨_, rfl⟩ := List.getElem?_eq_some_iff.1 hr'
      simp only [List.length_range] at hi
      rw [List.getElem_range]
      exact (hF i (by omega)).2
    · right
      refine ⟨_, _, hx.1, by simp, fun i e' l he' hl' => ?_⟩
      rw [List.getElem?_map] at he' hl'
      obtain ⟨r, hr, rfl⟩ := Option.map_eq_some_iff.1 he'
      obtain ⟨r', hr', rfl⟩ := Option.map_eq_some_iff.1 hl'
      obtain ⟨hi, rfl⟩ := List.getElem?_eq_some_iff.1 hr
      obtain ⟨_, rfl⟩ := List.getElem?_eq_some_iff.1 hr'
      simp only [List.length_range] at hi
      rw [List.getElem_range]
      have h1 := (hF i (by omega)).1
      obtain ⟨_, k1, k2, k3, k4, k5, k6⟩ := hrow i (by omega)
      cases hB : B i with
      | none =>
        left
        have := k5 hB
        exact List.eq_nil_of_length_eq_zero (by omega)
      | some a' =>
        right
        exact ⟨_, _, rfl, by simp [lits]; omega⟩
end

end Go.Proofs.Ythpinbmimgojnaa
