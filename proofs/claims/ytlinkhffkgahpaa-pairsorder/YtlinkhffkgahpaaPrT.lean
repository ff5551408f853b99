/-
  Contracts of package pairs' Turn and Move, and of the reference's.
-/
import Derived.Test.YtlinkhffkgahpaaPrP
import Derived.Test.YtlinkhffkgahpaaOwnS
import Derived.Test.YtlinkhffkgahpaaLow
namespace Go.Proofs.Ytlinkhffkgahpaa
open Go.RowKit

/-- The head of a round that fills new pairs: k of them are f of l's. -/
def FillRel (f : Pr → Pr) (l : List Pr) (w : World) (i : Value) (wr : World) : Prop :=
  ∃ k : Nat, k ≤ l.length ∧ i = .int .i64 (k : Int) ∧ wr.ownsRow w.heap.size 24 2 (.slice (some ⟨w.heap.size, 0, none⟩) l.length l.length) l.length (pv ((l.take k).map f ++ List.replicate (l.length - k) (0, 0))) ∧ Below w.heap.size w wr
theorem fill_start {f : Pr → Pr} {l : List Pr} {w wr : World} (h : wr.ownsRow w.heap.size 24 2 (.slice (some ⟨w.heap.size, 0, none⟩) l.length l.length) l.length (madeCells (Value.agg #[.int .i64 0, .int .i64 0]).cells (l.length * 2)).toList) (hb : Below w.heap.size w wr) : FillRel f l w (.int .i64 0) wr := by
  rw [made_pairs] at h
  exact ⟨0, Nat.zero_le _, rfl, by simpa using h, hb⟩
theorem fill_list {f : Pr → Pr} {l : List Pr} {k : Nat} (h : k < l.length) : (l.take k).map f ++ List.replicate (l.length - k) (0, 0) = (l.take k).map f ++ (0, 0) :: List.replicate (l.length - (k + 1)) (0, 0) := by
  rw [show l.length - k = (l.length - (k + 1)) + 1 by omega, List.replicate_succ]
/-- A round. -/
theorem fill_step {f : Pr → Pr} {l : List Pr} {w wr : World} {k : Nat} {p : Pr} (hk : k < l.length) (hp : l[k]? = some p) (h : wr.ownsRow w.heap.size 24 2 (.slice (some ⟨w.heap.size, 0, none⟩) l.length l.length) l.length (pv ((l.take k).map f ++ List.replicate (l.length - k) (0, 0)))) (hb : Below w.heap.size w wr) {x y : Int} (hx : x = (f p).1) (hy : y = (f p).2) :
    FillRel f l w (.int .i64 (k + 1 : Nat)) ((wr.setCell ⟨w.heap.size, k * 2, none⟩ (.int .i64 x)).setCell ⟨w.heap.size, k * 2 + 1, none⟩ (.int .i64 y)) := by
  subst hx
  subst hy
  have hl : ((l.take k).map f).length = k := by simp; omega
  refine ⟨k + 1, by omega, rfl, ?_, (hb.setCell (Nat.le_refl _) _).setCell (Nat.le_refl _) _⟩
  have h2 := own_setS (own_setS h (k * 2) (.int .i64 (f p).1)) (k * 2 + 1) (.int .i64 (f p).2)
  have e := pv_set2 ((l.take k).map f) (List.replicate (l.length - (k + 1)) (0, 0)) (0, 0) (f p).1 (f p).2
  rw [hl] at e
  obtain ⟨hk', e'⟩ := List.getElem?_eq_some_iff.1 hp
  rw [fill_list hk, e] at h2
  rw [List.take_succ_eq_append_getElem hk, e']
  simpa using h2
theorem fill_alloc {f : Pr → Pr} {l : List Pr} {w wr : World} {i : Value} (h : FillRel f l w i wr) (o : Obj) : FillRel f l w i (wr.alloc o) := by
  obtain ⟨k, h1, h2, h3, h4⟩ := h
  exact ⟨k, h1, h2, h3.alloc o, h4.alloc h4.size o⟩
theorem fill_done {f : Pr → Pr} {l : List Pr} {w wr : World} {k : Nat} (hk : ¬ k < l.length) (h : wr.ownsRow w.heap.size 24 2 (.slice (some ⟨w.heap.size, 0, none⟩) l.length l.length) l.length (pv ((l.take k).map f ++ List.replicate (l.length - k) (0, 0)))) (hb : Below w.heap.size w wr) :
    MadeP (l.map f) w (.returned (.slice (some ⟨w.heap.size, 0, none⟩) l.length l.length)) wr := by
  rw [show l.length - k = 0 by omega, List.take_of_length_le (by omega)] at h
  exact ⟨_, rfl, by simpa using h, hb⟩
theorem fill_cells {f : Pr → Pr} {l : List Pr} {w wr : World} {k : Nat} (hk : k < l.length) (h : wr.ownsRow w.heap.size 24 2 (.slice (some ⟨w.heap.size, 0, none⟩) l.length l.length) l.length (pv ((l.take k).map f ++ List.replicate (l.length - k) (0, 0)))) :
    wr.cell? ⟨w.heap.size, k * 2, none⟩ = some (.int .i64 0) ∧ wr.cell? ⟨w.heap.size, k * 2 + 1, none⟩ = some (.int .i64 0) ∧ (∀ j, wr.frozen? ⟨w.heap.size, j, none⟩ = false) := by
  have hl : ((l.take k).map f).length = k := by simp; omega
  obtain ⟨g, c, e, hf, _, _⟩ := own_posS h (by omega)
  cases e
  obtain ⟨g, o, e, h1, h2⟩ := (own_rowS h).pair (k := k) (by simp; omega)
  cases e
  simp only [fill_list hk] at h1 h2
  rw [List.getElem_append_right (by omega)] at h1 h2
  simp only [hl, Nat.sub_self, List.getElem_cons_zero, Nat.zero_add] at h1 h2
  exact ⟨h1, h2, hf⟩

set_option maxRecDepth 100000 in
set_option maxHeartbeats 1600000 in
theorem pturn (A : Option Addr) (N c : Nat) (l : List Pr) (w : World) (hN : l.length = N) (hb : N ≤ 1048576) (hr : Row w A (pv l)) :
    Calls Try.prog 11 #[.slice A N c] w (MadeP (turnP l) w) := by
  subst hN
  obtain ⟨i0, hi, hz0, hz1, hz2⟩ := info_parts Try.infoPair
  go_enter Try.func11, Try.ntmps11
  go_wp2_with (at_make; refine wpList_make_full _ rfl _ _ 25 rfl w.heap.size 24 i0 (.agg #[.int .i64 0, .int .i64 0]) 2 Try.underlying25 hi hz0 hz1 .i64 .i64 _ _ l.length rfl rfl rfl rfl (by rw [hz2]; omega) (by unfold maxLen; omega) (Nat.le_refl _) ?_)
  intro w1 hown hg
  have HS := Lib.hid (fill_start (f := fun p => (p.2, p.1)) hown ((Below.refl _ _).grown hg (Nat.le_refl _) (fun k hk => by cases hk)))
  clear hown hg
  go_wp2_with fail
  go_loopw [11] (fun i wr => FillRel (fun p => (p.2, p.1)) l w i wr) (fun i _ => l.length - (intOf i).toNat)
  case atStart => exact HS.out
  case round =>
    clear HS
    obtain ⟨k, hk, rfl, hwn, hbr⟩ := hrel
    by_cases hlt : k < l.length
    · obtain ⟨g, o, rfl, hc, hd⟩ := (hr.below hbr).pair hlt
      have HX : Hid (l[k]? = some l[k]) := List.getElem?_eq_getElem hlt
      generalize l[k] = z at *
      clear hr
      obtain ⟨z1, z2⟩ := z
      simp only at hc hd
      have R := Lib.hid (fun o => fill_alloc (fill_step (f := fun p => (p.2, p.1)) hlt HX.out hwn hbr rfl rfl) o)
      obtain ⟨f1, f2, f3⟩ := fill_cells hlt hwn
      have f4 := f3 (k * 2)
      have f5 := f3 (k * 2 + 1)
      have hne : w.heap.size < wr.heap.size := by have := hwn.lt w.heap.size rfl; omega
      clear hwn hbr f3
      go_wp2_with fail
      go_roundw
      case rel => exact R.out _
      case measure => simp [intOf]; omega
    · have HF := Lib.hid (fill_done hlt hwn hbr)
      clear hwn hbr
      go_wp2_with fail
      go_ret
      exact HF.out

set_option maxRecDepth 100000 in
set_option maxHeartbeats 1600000 in
theorem pmove (A : Option Addr) (N c : Nat) (l : List Pr) (a b : Int) (w : World) (hN : l.length = N) (hb : N ≤ 1048576) (hr : Row w A (pv l)) :
    Calls Try.prog 10 #[.slice A N c, .int .i64 a, .int .i64 b] w (MadeP (moveP l a b) w) := by
  subst hN
  obtain ⟨i0, hi, hz0, hz1, hz2⟩ := info_parts Try.infoPair
  go_enter Try.func10, Try.ntmps10
  go_wp2_with (at_make; refine wpList_make_full _ rfl _ _ 25 rfl w.heap.size 24 i0 (.agg #[.int .i64 0, .int .i64 0]) 2 Try.underlying25 hi hz0 hz1 .i64 .i64 _ _ l.length rfl rfl rfl rfl (by rw [hz2]; omega) (by unfold maxLen; omega) (Nat.le_refl _) ?_)
  intro w1 hown hg
  have HS := Lib.hid (fill_start (f := movP a b) hown ((Below.refl _ _).grown hg (Nat.le_refl _) (fun k hk => by cases hk)))
  clear hown hg
  go_wp2_with fail
  go_loopw [15] (fun i wr => FillRel (movP a b) l w i wr) (fun i _ => l.length - (intOf i).toNat)
  case atStart => exact HS.out
  case round =>
    clear HS
    obtain ⟨k, hk, rfl, hwn, hbr⟩ := hrel
    by_cases hlt : k < l.length
    · obtain ⟨g, o, rfl, hc, hd⟩ := (hr.below hbr).pair hlt
      have HX : Hid (l[k]? = some l[k]) := List.getElem?_eq_getElem hlt
      generalize l[k] = z at *
      clear hr
      obtain ⟨z1, z2⟩ := z
      simp only at hc hd
      have R := Lib.hid (fun o => fill_alloc (fill_step (f := movP a b) hlt HX.out hwn hbr rfl rfl) o)
      obtain ⟨f1, f2, f3⟩ := fill_cells hlt hwn
      have f4 := f3 (k * 2)
      have f5 := f3 (k * 2 + 1)
      have hne : w.heap.size < wr.heap.size := by have := hwn.lt w.heap.size rfl; omega
      clear hwn hbr f3
      go_wp2_with fail
      go_roundw
      case rel => exact R.out _
      case measure => simp [intOf]; omega
    · have HF := Lib.hid (fill_done hlt hwn hbr)
      clear hwn hbr
      go_wp2_with fail
      go_ret
      exact HF.out

end Go.Proofs.Ytlinkhffkgahpaa
