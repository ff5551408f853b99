/-
  names.Sort, names.Find, names.Ids.
-/
import Derived.Test.YtjfiokcgmmmboaaNm5
namespace Go.Proofs.Ytjfiokcgmmmboaa
open Go.RowKit
open Go.Lib (compareBytes)

/-- Where a cell that holds a slice is written, bytes read as before. -/
theorem Row.store {w : World} {A : Option Addr} {l : Bs} (h : Row w A (bv l)) {p : Addr} {A' : Option Addr} {n c : Nat} (hc : w.cell? p = some (.slice A' n c)) (u : Value) : Row (w.setCell p u) A (bv l) := fun hne => by
  obtain ⟨g, o, e, hx⟩ := h hne
  refine ⟨g, o, e, fun i v hv => ?_⟩
  have h1 := hx i v hv
  rw [World.cell?_setCell_other]
  · exact h1
  · intro e'
    rw [e', h1] at hc
    obtain ⟨b, _, rfl⟩ := List.mem_map.1 (List.mem_of_getElem? hv)
    cases hc
theorem BS.store {w : World} {v : Value} {l : Bs} (h : BS w v l) {p : Addr} {A' : Option Addr} {n c : Nat} (hc : w.cell? p = some (.slice A' n c)) (u : Value) : BS (w.setCell p u) v l := by
  obtain ⟨A, c, rfl, h1, h2, h3, h4⟩ := h
  exact ⟨A, c, rfl, h1, h2, h3.store hc u, h4⟩
theorem BSs.store {w : World} {xs : List Value} {ls : List Bs} (h : BSs w xs ls) {p : Addr} {A' : Option Addr} {n c : Nat} (hc : w.cell? p = some (.slice A' n c)) (u : Value) : BSs (w.setCell p u) xs ls :=
  ⟨h.1, fun i v l hv hl => (h.2 i v l hv hl).store hc u⟩
theorem BSs.set {w : World} {xs : List Value} {ls : List Bs} (h : BSs w xs ls) {k : Nat} (hk : k < ls.length) {u : Value} (hu : BS w u ls[k]) : BSs w (xs.set k u) ls := by
  refine ⟨by simpa using h.1, fun i v l hv hl => ?_⟩
  by_cases e : k = i
  · subst e
    rw [List.getElem?_set_self (by rw [h.1]; exact hk)] at hv
    rw [List.getElem?_eq_getElem hk] at hl
    cases hv; cases hl
    exact hu
  · rw [List.getElem?_set_ne e] at hv
    exact h.2 i v l hv hl

/-- What a call leaves that returns a new list of tokens, and new tokens. -/
def NewT (ds : List Bs) (w : World) (e : Ending) (w' : World) : Prop :=
  ∃ v xs, e = .returned v ∧ w'.ownsRow w.heap.size 24 1 v ds.length xs ∧ BSs w' xs ds ∧ Below w.heap.size w w'

/-- The head of a round of names.Sort. -/
def NSort (ds : List Bs) (w : World) (v : Value) (i : Value) (wr : World) : Prop :=
  ∃ (k : Nat) (ys : List Value), k ≤ ds.length ∧ i = .int .i64 k ∧ wr.ownsRow w.heap.size 24 1 v ds.length ys ∧ BSs wr ys ds ∧ Below w.heap.size w wr

theorem nsort_round {ds : List Bs} {w wr w1 : World} {g cap k : Nat} {ys : List Value} {u : Value} (hk : k < ds.length) (hown : wr.ownsRow w.heap.size 24 1 (.slice (some ⟨g, 0, none⟩) ds.length cap) ds.length ys) (hbs : BSs wr ys ds) (hbr : Below w.heap.size w wr)
    (hu : OwnB wr.heap.size w1 u ds[k]) (hb1 : Below wr.heap.size wr w1) : NSort ds w (.slice (some ⟨g, 0, none⟩) ds.length cap) (.int .i64 (k + 1 : Nat)) (w1.setCell ⟨g, k, none⟩ u) := by
  have hown1 := own_below hown hb1 (Nat.le_refl _)
  have hg := own_lt hown
  obtain ⟨A, c, hx, b, r⟩ := hbs.at_ hk
  have hc : w1.cell? ⟨g, k, none⟩ = some (.slice A ds[k].length c) := (hown1.cellAt k (by omega)).trans hx
  refine ⟨k + 1, ys.set k u, by omega, rfl, (hown1.stored k u).1, ?_, ?_⟩
  · exact ((hbs.below hb1).store hc u).set hk (hu.bs.store hc u)
  · exact (hbr.trans (hb1.mono hbr.size)).setCell hg.1 u

set_option maxHeartbeats 800000 in
theorem nmSort_any (A : Option Addr) (n c : Nat) (vs : List Value) (ls : List Bs) (w : World) (hn : ls.length = n) (hb : n ≤ 2147483648) (hl : ∀ t ∈ ls, t.length ≤ 2147483648) (hr : Row w A vs) (hbs : BSs w vs ls) :
    Calls Try.prog 9 #[.slice A n c] w (NewT (sortU ls) w) := by
  have HL : Hid (∀ t ∈ sortU ls, t.length ≤ 2147483648) := fun t ht => hl t (mem_sortU.1 ht)
  have hdl := sortU_length ls
  clear hl
  rw [hn] at hdl
  go_enter Try.func9, Try.ntmps9
  go_wp2_with fail
  refine (distinct_any A n c vs ls _ hn hb hr hbs).mono ?_
  rintro e w1 ⟨v, xs, rfl, hown, hbx, hb1⟩
  generalize sortU ls = ds at *
  obtain ⟨V, cV, rfl, _, _, _, hnil⟩ := own_slice hown
  have hbx1 := hbx.below hb1
  clear hbx hr hbs hn
  go_wp2_with fail
  go_loopw [10] (fun i wr => NSort ds w (.slice V ds.length cV) i wr) (fun i _ => ds.length - (intOf i).toNat)
  case atStart => exact ⟨0, xs, Nat.zero_le _, rfl, hown, hbx1, hb1⟩
  case round =>
    clear hown hbx1 hb1
    obtain ⟨k, ys, hk, rfl, hown, hbx, hbr⟩ := hrel
    by_cases hlt : k < ds.length
    · obtain ⟨g, rfl⟩ : ∃ g, V = some ⟨g, 0, none⟩ := by
        rcases hown.2 with ⟨_, h0⟩ | ⟨g, cap, cur, hv, _⟩
        · omega
        · exact ⟨g, by injection hv⟩
      obtain ⟨B, cB, hx, b, r⟩ := hbx.at_ hlt
      have hc : wr.cell? ⟨g, k, none⟩ = some (.slice B ds[k].length cB) := (hown.cellAt k (by omega)).trans hx
      have dl := HL.out _ (List.getElem_mem hlt)
      go_wp2_with fail
      refine (nmCopied_any B _ cB ds[k] _ rfl dl r).mono ?_
      rintro e w2 ⟨u, rfl, hu, hb2⟩
      have R := nsort_round hlt hown hbx hbr hu hb2
      have hc2 : w2.cell? ⟨g, k, none⟩ = some (.slice B ds[k].length cB) := ((own_below hown hb2 (Nat.le_refl _)).cellAt k (by omega)).trans hx
      have hf2 : w2.frozen? ⟨g, k, none⟩ = false := (own_below hown hb2 (Nat.le_refl _)).frozenAt k
      obtain ⟨C, cC, rfl, _⟩ := hu.form
      clear hown hbx hbr hu hb2 hx b r hc
      go_wp2_with fail
      go_roundw
      case rel => exact R
      case measure => simp [intOf]; omega
    · have R : NewT ds w (.returned (.slice V ds.length cV)) wr := ⟨_, ys, rfl, hown, hbx, hbr⟩
      clear hown hbx hbr
      go_wp2_with fail
      go_ret
      exact R

end Go.Proofs.Ytjfiokcgmmmboaa
