/-
  Words and contracts that the proof leans on.
-/
import Derived.Test.YtejpbjglfjhjkaaM3
import Derived.Test.YtejpbjglfjhjkaaM4
namespace Go.Proofs.Ytejpbjglfjhjkaa
open Go.RowKit

/-- A pair of places that are alike. -/
def okP (a b : List Int) (c : Pr) : Bool := decide (0 ≤ c.1 ∧ c.1 < (a.length : Int) ∧ 0 ≤ c.2 ∧ c.2 < (b.length : Int) ∧ a[c.1.toNat]? = b[c.2.toNat]?)
def rises : Option Pr → Pr → Bool
  | none, _ => true
  | some p, c => decide (p.1 < c.1 ∧ p.2 < c.2)
def goodGo (a b : List Int) : Option Pr → List Pr → Bool
  | _, [] => true
  | p, c :: l => okP a b c && rises p c && goodGo a b (some c) l
/-- The list is valid. -/
def goodB (a b : List Int) (l : List Pr) : Bool := goodGo a b none l
def prevAt (l : List Pr) : Nat → Option Pr
  | 0 => none
  | k + 1 => l[k]?
theorem good_step {a b : List Int} {l : List Pr} {k : Nat} {c : Pr} (h : l[k]? = some c) : goodGo a b (prevAt l k) (l.drop k) = (okP a b c && rises (prevAt l k) c && goodGo a b (prevAt l (k + 1)) (l.drop (k + 1))) := by
  obtain ⟨hk, e⟩ := List.getElem?_eq_some_iff.1 h
  rw [List.drop_eq_getElem_cons hk, e, goodGo]
  show _ = (okP a b c && rises (prevAt l k) c && goodGo a b l[k]? (l.drop (k + 1)))
  rw [h]
theorem good_end {a b : List Int} {l : List Pr} {k : Nat} (h : l.length ≤ k) : goodGo a b (prevAt l k) (l.drop k) = true := by
  rw [List.drop_eq_nil_of_le h, goodGo]
theorem okP_yes {a b : List Int} {x y : Nat} {u : Int} (h1 : a[x]? = some u) (h2 : b[y]? = some u) : okP a b ((x : Int), (y : Int)) = true := by
  have g1 := (List.getElem?_eq_some_iff.1 h1).1
  have g2 := (List.getElem?_eq_some_iff.1 h2).1
  unfold okP
  rw [decide_eq_true]
  refine ⟨by simp, by simp; omega, by simp, by simp; omega, ?_⟩
  simp [h1, h2]

end Go.Proofs.Ytejpbjglfjhjkaa

namespace Go.Proofs.Ytejpbjglfjhjkaa

/-- x comes ahead of y. -/
def lessB : List Pr → List Pr → Bool
  | [], [] => false
  | [], _ :: _ => true
  | _ :: _, [] => false
  | p :: x, q :: y => if p.1 = q.1 then (if p.2 = q.2 then lessB x y else decide (p.2 < q.2)) else decide (p.1 < q.1)
theorem lessB_cons {p q : Pr} {x y : List Pr} : lessB (p :: x) (q :: y) = true ↔ p.1 < q.1 ∨ (p.1 = q.1 ∧ (p.2 < q.2 ∨ (p.2 = q.2 ∧ lessB x y = true))) := by
  rw [lessB]
  by_cases h1 : p.1 = q.1
  · rw [if_pos h1]
    by_cases h2 : p.2 = q.2
    · rw [if_pos h2]
      constructor
      · exact fun h => .inr ⟨h1, .inr ⟨h2, h⟩⟩
      · rintro (h | ⟨_, h | ⟨_, h⟩⟩)
        · omega
        · omega
        · exact h
    · rw [if_neg h2]
      simp only [decide_eq_true_eq]
      constructor
      · exact fun h => .inr ⟨h1, .inl h⟩
      · rintro (h | ⟨_, h | ⟨h, _⟩⟩)
        · omega
        · exact h
        · exact absurd h h2
  · rw [if_neg h1]
    simp only [decide_eq_true_eq]
    constructor
    · exact fun h => .inl h
    · rintro (h | ⟨h, _⟩)
      · exact h
      · exact absurd h h1
theorem lessB_total : ∀ {x y : List Pr}, lessB x y = false → lessB y x = false → x = y
  | [], [], _, _ => rfl
  | [], _ :: _, h, _ => by cases h
  | _ :: _, [], _, h => by cases h
  | p :: x, q :: y, h1, h2 => by
    have g1 : ¬ (p.1 < q.1 ∨ (p.1 = q.1 ∧ (p.2 < q.2 ∨ (p.2 = q.2 ∧ lessB x y = true)))) := by rw [← lessB_cons, h1]; simp
    have g2 : ¬ (q.1 < p.1 ∨ (q.1 = p.1 ∧ (q.2 < p.2 ∨ (q.2 = p.2 ∧ lessB y x = true)))) := by rw [← lessB_cons, h2]; simp
    have e1 : p.1 = q.1 := by
      have := fun h => g1 (.inl h)
      have := fun h => g2 (.inl h)
      omega
    have e2 : p.2 = q.2 := by
      have := fun h => g1 (.inr ⟨e1, .inl h⟩)
      have := fun h => g2 (.inr ⟨e1.symm, .inl h⟩)
      omega
    have e3 : lessB x y = false := by
      cases h : lessB x y with
      | false => rfl
      | true => exact absurd (.inr ⟨e1, .inr ⟨e2, h⟩⟩) g1
    have e4 : lessB y x = false := by
      cases h : lessB y x with
      | false => rfl
      | true => exact absurd (.inr ⟨e1.symm, .inr ⟨e2.symm, h⟩⟩) g2
    rw [lessB_total e3 e4]
    obtain ⟨p1, p2⟩ := p
    obtain ⟨q1, q2⟩ := q
    simp only at e1 e2
    rw [e1, e2]
/-! Step by step. -/
/-- Exchanged; moved; what stands there. -/
def turnP (l : List Pr) : List Pr := l.map fun p => (p.2, p.1)
def valAt (a : List Int) (p : Pr) : List Int := if 0 ≤ p.1 ∧ p.1 < (a.length : Int) then a[p.1.toNat]?.toList else []
def valsOf (a : List Int) (l : List Pr) : List Int := l.flatMap (valAt a)
theorem valAt_in {a : List Int} {x : Nat} {y u : Int} (h : a[x]? = some u) : valAt a ((x : Int), y) = [u] := by
  have := (List.getElem?_eq_some_iff.1 h).1
  unfold valAt
  rw [if_pos ⟨by simp, by simp; omega⟩]
  simp [h]
/-! Good ones. -/
theorem okP_out {a b : List Int} {c : Pr} (h : okP a b c = true) : ∃ (x y : Nat) (u : Int), c = ((x : Int), (y : Int)) ∧ a[x]? = some u ∧ b[y]? = some u := by
  obtain ⟨c1, c2⟩ := c
  have h' : 0 ≤ c1 ∧ c1 < (a.length : Int) ∧ 0 ≤ c2 ∧ c2 < (b.length : Int) ∧ a[c1.toNat]? = b[c2.toNat]? := by simpa [okP] using h
  obtain ⟨h1, h2, h3, h4, h5⟩ := h'
  obtain ⟨x, rfl⟩ := Int.eq_ofNat_of_zero_le h1
  obtain ⟨y, rfl⟩ := Int.eq_ofNat_of_zero_le h3
  simp only [Int.toNat_natCast] at h5
  have hx : x < a.length := by omega
  refine ⟨x, y, a[x], rfl, List.getElem?_eq_getElem hx, ?_⟩
  rw [← h5]
  exact List.getElem?_eq_getElem hx
theorem okP_swap (a b : List Int) (p : Pr) : okP b a (p.2, p.1) = okP a b p := by
  unfold okP
  rw [decide_eq_decide]
  constructor
  · rintro ⟨h1, h2, h3, h4, h5⟩
    exact ⟨h3, h4, h1, h2, h5.symm⟩
  · rintro ⟨h1, h2, h3, h4, h5⟩
    exact ⟨h3, h4, h1, h2, h5.symm⟩
def swapO : Option Pr → Option Pr := Option.map fun p => (p.2, p.1)
theorem rises_swap (o : Option Pr) (p : Pr) : rises (swapO o) (p.2, p.1) = rises o p := by
  cases o with
  | none => rfl
  | some q => simp only [swapO, Option.map_some, rises]; rw [decide_eq_decide]; omega
theorem goodGo_turn (a b : List Int) : ∀ (o : Option Pr) (l : List Pr), goodGo b a (swapO o) (turnP l) = goodGo a b o l
  | _, [] => rfl
  | o, p :: l => by
    have h := goodGo_turn a b (some p) l
    show (okP b a (p.2, p.1) && rises (swapO o) (p.2, p.1) && goodGo b a (some (p.2, p.1)) (turnP l)) = (okP a b p && rises o p && goodGo a b (some p) l)
    rw [okP_swap, rises_swap, ← h]
    rfl
theorem good_turn (a b : List Int) (l : List Pr) : goodB b a (turnP l) = goodB a b l := goodGo_turn a b none l

/-- What stands there, of good ones. -/
theorem goodGo_vals (a b : List Int) : ∀ (o : Option Pr) (l : List Pr), goodGo a b o l = true → valsOf a l = valsOf b (turnP l) ∧ (valsOf a l).length = l.length
  | _, [], _ => ⟨rfl, rfl⟩
  | o, p :: l, h => by
    rw [goodGo, Bool.and_eq_true, Bool.and_eq_true] at h
    obtain ⟨⟨h1, _⟩, h3⟩ := h
    obtain ⟨e1, e2⟩ := goodGo_vals a b (some p) l h3
    obtain ⟨x, y, u, rfl, hx, hy⟩ := okP_out h1
    have g1 : valsOf a (((x : Int), (y : Int)) :: l) = u :: valsOf a l := by
      show valAt a ((x : Int), (y : Int)) ++ valsOf a l = _
      rw [valAt_in hx]; rfl
    have g2 : valsOf b (turnP (((x : Int), (y : Int)) :: l)) = u :: valsOf b (turnP l) := by
      show valAt b ((y : Int), (x : Int)) ++ valsOf b (turnP l) = _
      rw [valAt_in hy]; rfl
    rw [g1, g2, e1]
    exact ⟨rfl, by rw [List.length_cons, List.length_cons, ← e1, e2]⟩
theorem goodGo_sub (a b : List Int) : ∀ (o : Option Pr) (l : List Pr) (n : Nat), goodGo a b o l = true → (∀ p ∈ l.head?, (n : Int) ≤ p.1) → (valsOf a l).Sublist (a.drop n)
  | _, [], _, _, _ => List.nil_sublist _
  | o, p :: l, n, h, hn => by
    rw [goodGo, Bool.and_eq_true, Bool.and_eq_true] at h
    obtain ⟨⟨h1, _⟩, h3⟩ := h
    obtain ⟨x, y, u, rfl, hx, hy⟩ := okP_out h1
    have hle : n ≤ x := by have := hn ((x : Int), (y : Int)) (by simp); simp only at this; omega
    have ih := goodGo_sub a b (some ((x : Int), (y : Int))) l (x + 1) h3 (by
      intro q hq
      cases l with
      | nil => simp at hq
      | cons r l =>
        simp at hq
        subst hq
        rw [goodGo, Bool.and_eq_true, Bool.and_eq_true] at h3
        have := h3.1.2
        simp only [rises, decide_eq_true_eq] at this
        omega)
    have g1 : valsOf a (((x : Int), (y : Int)) :: l) = u :: valsOf a l := by
      show valAt a ((x : Int), (y : Int)) ++ valsOf a l = _
      rw [valAt_in hx]; rfl
    rw [g1]
    have hxl := (List.getElem?_eq_some_iff.1 hx).1
    have hxe := (List.getElem?_eq_some_iff.1 hx).2
    have e : a.drop n = (a.drop n).take (x - n) ++ u :: a.drop (x + 1) := by
      have := (List.take_append_drop (x - n) (a.drop n)).symm
      rw [List.drop_drop, show n + (x - n) = x by omega, List.drop_eq_getElem_cons hxl, hxe] at this
      exact this
    rw [e]
    exact (ih.cons_cons u).trans (List.sublist_append_right _ _)
theorem goodGo_nonneg {a b : List Int} {o : Option Pr} {p : Pr} {l : List Pr} (h : goodGo a b o (p :: l) = true) : 0 ≤ p.1 ∧ 0 ≤ p.2 := by
  rw [goodGo, Bool.and_eq_true, Bool.and_eq_true] at h
  obtain ⟨x, y, u, rfl, _, _⟩ := okP_out h.1.1
  simp
theorem good_sub {a b : List Int} {l : List Pr} (h : goodB a b l = true) : (valsOf a l).Sublist a := by
  have := goodGo_sub a b none l 0 h (by
    intro p hp
    cases l with
    | nil => simp at hp
    | cons q l =>
      simp at hp
      subst hp
      exact (goodGo_nonneg h).1)
  simpa using this
theorem good_vals {a b : List Int} {l : List Pr} (h : goodB a b l = true) : valsOf a l = valsOf b (turnP l) ∧ (valsOf a l).length = l.length := goodGo_vals a b none l h
theorem good_sub' {a b : List Int} {l : List Pr} (h : goodB a b l = true) : (valsOf a l).Sublist b := by
  rw [(good_vals h).1]
  exact good_sub (a := b) (b := a) (by rw [good_turn]; exact h)

/-- The front pair of a walk that begins with (-1, -1). -/
def befP : Option Pr → Pr
  | none => (-1, -1)
  | some p => p
theorem ok_bef {a b : List Int} {o : Option Pr} {c : Pr} (h : -1 ≤ (befP o).1 ∧ -1 ≤ (befP o).2) : (okP a b c && rises o c) = decide ((befP o).1 < c.1 ∧ (befP o).2 < c.2 ∧ c.1 < (a.length : Int) ∧ c.2 < (b.length : Int) ∧ a[c.1.toNat]? = b[c.2.toNat]?) := by
  rw [Bool.eq_iff_iff, Bool.and_eq_true]
  unfold okP
  simp only [decide_eq_true_eq]
  cases o with
  | none =>
    show (_ ∧ true = true) ↔ ((-1 : Int) < _ ∧ (-1 : Int) < _ ∧ _)
    constructor
    · rintro ⟨⟨h1, h2, h3, h4, h5⟩, _⟩
      exact ⟨by omega, by omega, h2, h4, h5⟩
    · rintro ⟨h1, h2, h3, h4, h5⟩
      exact ⟨⟨by omega, h3, by omega, h4, h5⟩, rfl⟩
  | some p =>
    have e : rises (some p) c = true ↔ p.1 < c.1 ∧ p.2 < c.2 := by simp [rises]
    rw [e]
    have h : -1 ≤ p.1 ∧ -1 ≤ p.2 := h
    show _ ↔ (p.1 < _ ∧ p.2 < _ ∧ _)
    constructor
    · rintro ⟨⟨h1, h2, h3, h4, h5⟩, h6, h7⟩
      exact ⟨h6, h7, h2, h4, h5⟩
    · rintro ⟨h1, h2, h3, h4, h5⟩
      exact ⟨⟨by omega, h3, by omega, h4, h5⟩, h1, h2⟩

end Go.Proofs.Ytejpbjglfjhjkaa

namespace Go.Proofs.Ytejpbjglfjhjkaa
open Go.RowKit

/-- The head of a round that fills new pairs: k of them are f of l's. -/
def FillRel (f : Pr → Pr) (l : List Pr) (w : World) (i : Value) (wr : World) : Prop :=
  ∃ k : Nat, k ≤ l.length ∧ i = .int .i64 (k : Int) ∧ wr.ownsRow w.heap.size 28 2 (.slice (some ⟨w.heap.size, 0, none⟩) l.length l.length) l.length (pv ((l.take k).map f ++ List.replicate (l.length - k) (0, 0))) ∧ Below w.heap.size w wr
theorem fill_start {f : Pr → Pr} {l : List Pr} {w wr : World} (h : wr.ownsRow w.heap.size 28 2 (.slice (some ⟨w.heap.size, 0, none⟩) l.length l.length) l.length (madeCells (Value.agg #[.int .i64 0, .int .i64 0]).cells (l.length * 2)).toList) (hb : Below w.heap.size w wr) : FillRel f l w (.int .i64 0) wr := by
  rw [made_pairs] at h
  exact ⟨0, Nat.zero_le _, rfl, by simpa using h, hb⟩
theorem fill_list {f : Pr → Pr} {l : List Pr} {k : Nat} (h : k < l.length) : (l.take k).map f ++ List.replicate (l.length - k) (0, 0) = (l.take k).map f ++ (0, 0) :: List.replicate (l.length - (k + 1)) (0, 0) := by
  rw [show l.length - k = (l.length - (k + 1)) + 1 by omega, List.replicate_succ]
/-- A round. -/
theorem fill_step {f : Pr → Pr} {l : List Pr} {w wr : World} {k : Nat} {p : Pr} (hk : k < l.length) (hp : l[k]? = some p) (h : wr.ownsRow w.heap.size 28 2 (.slice (some ⟨w.heap.size, 0, none⟩) l.length l.length) l.length (pv ((l.take k).map f ++ List.replicate (l.length - k) (0, 0)))) (hb : Below w.heap.size w wr) {x y : Int} (hx : x = (f p).1) (hy : y = (f p).2) :
    FillRel f l w (.int .i64 (k + 1 : Nat)) ((wr.setCell ⟨w.heap.size, k * 2, none⟩ (.int .i64 x)).setCell ⟨w.heap.size, k * 2 + 1, none⟩ (.int .i64 y)) := by
  subst hx
  subst hy
  have hl : ((l.take k).map f).length = k := by simp; omega
  refine ⟨k + 1, by omega, rfl, ?_, (hb.setCell (Nat.le_refl _) _).setCell (Nat.le_refl _) _⟩
  have h2 := own_setS (own_setS h (k * 2) (.int .i64 (f p).1)) (k * 2 + 1) (.int .i64 (f p).2)
  have e := pv_set2 ((l.take k).map f) (List.replicate (l.length - (k + 1)) (0, 0)) (0, 0) (f p).1 (f p).2
  rw [hl] at e
  obtain ⟨hk', e'⟩ := List.getElem?_eq_some_iff.1 hp
  rw [fill_list hk, e] at h2
  rw [List.take_succ_eq_append_getElem hk, e']
  simpa using h2
theorem fill_alloc {f : Pr → Pr} {l : List Pr} {w wr : World} {i : Value} (h : FillRel f l w i wr) (o : Obj) : FillRel f l w i (wr.alloc o) := by
  obtain ⟨k, h1, h2, h3, h4⟩ := h
  exact ⟨k, h1, h2, h3.alloc o, h4.alloc h4.size o⟩
theorem fill_done {f : Pr → Pr} {l : List Pr} {w wr : World} {k : Nat} (hk : ¬ k < l.length) (h : wr.ownsRow w.heap.size 28 2 (.slice (some ⟨w.heap.size, 0, none⟩) l.length l.length) l.length (pv ((l.take k).map f ++ List.replicate (l.length - k) (0, 0)))) (hb : Below w.heap.size w wr) :
    MadeP (l.map f) w (.returned (.slice (some ⟨w.heap.size, 0, none⟩) l.length l.length)) wr := by
  rw [show l.length - k = 0 by omega, List.take_of_length_le (by omega)] at h
  exact ⟨_, rfl, by simpa using h, hb⟩
theorem fill_cells {f : Pr → Pr} {l : List Pr} {w wr : World} {k : Nat} (hk : k < l.length) (h : wr.ownsRow w.heap.size 28 2 (.slice (some ⟨w.heap.size, 0, none⟩) l.length l.length) l.length (pv ((l.take k).map f ++ List.replicate (l.length - k) (0, 0)))) :
    wr.cell? ⟨w.heap.size, k * 2, none⟩ = some (.int .i64 0) ∧ wr.cell? ⟨w.heap.size, k * 2 + 1, none⟩ = some (.int .i64 0) ∧ (∀ j, wr.frozen? ⟨w.heap.size, j, none⟩ = false) := by
  have hl : ((l.take k).map f).length = k := by simp; omega
  obtain ⟨g, c, e, hf, _, _⟩ := own_posS h (by omega)
  cases e
  obtain ⟨g, o, e, h1, h2⟩ := (own_rowS h).pair (k := k) (by simp; omega)
  cases e
  simp only [fill_list hk] at h1 h2
  rw [List.getElem_append_right (by omega)] at h1 h2
  simp only [hl, Nat.sub_self, List.getElem_cons_zero, Nat.zero_add] at h1 h2
  exact ⟨h1, h2, hf⟩

set_option maxRecDepth 100000 in
set_option maxHeartbeats 1600000 in
theorem pturn (A : Option Addr) (N c : Nat) (l : List Pr) (w : World) (hN : l.length = N) (hb : N ≤ 1048576) (hr : Row w A (pv l)) :
    Calls Try.prog 25 #[.slice A N c] w (MadeP (turnP l) w) := by
  subst hN
  obtain ⟨i0, hi, hz0, hz1, hz2⟩ := info_parts Try.infoPair
  go_enter Try.func25, Try.ntmps25
  go_wp2_with (at_make; refine wpList_make_full _ rfl _ _ 22 rfl w.heap.size 28 i0 (.agg #[.int .i64 0, .int .i64 0]) 2 Try.underlying22 hi hz0 hz1 .i64 .i64 _ _ l.length rfl rfl rfl rfl (by rw [hz2]; omega) (by unfold maxLen; omega) (Nat.le_refl _) ?_)
  intro w1 hown hg
  have HS := Lib.hid (fill_start (f := fun p => (p.2, p.1)) hown ((Below.refl _ _).grown hg (Nat.le_refl _) (fun k hk => by cases hk)))
  clear hown hg
  go_wp2_with fail
  go_loopw [11] (fun i wr => FillRel (fun p => (p.2, p.1)) l w i wr) (fun i _ => l.length - (intOf i).toNat)
  case atStart => exact HS.out
  case round =>
    clear HS
    obtain ⟨k, hk, rfl, hwn, hbr⟩ := hrel
    by_cases hlt : k < l.length
    · obtain ⟨g, o, rfl, hc, hd⟩ := (hr.below hbr).pair hlt
      have HX : Hid (l[k]? = some l[k]) := List.getElem?_eq_getElem hlt
      generalize l[k] = z at *
      clear hr
      obtain ⟨z1, z2⟩ := z
      simp only at hc hd
      have R := Lib.hid (fun o => fill_alloc (fill_step (f := fun p => (p.2, p.1)) hlt HX.out hwn hbr rfl rfl) o)
      obtain ⟨f1, f2, f3⟩ := fill_cells hlt hwn
      have f4 := f3 (k * 2)
      have f5 := f3 (k * 2 + 1)
      have hne : w.heap.size < wr.heap.size := by have := hwn.lt w.heap.size rfl; omega
      clear hwn hbr f3
      go_wp2_with fail
      go_roundw
      case rel => exact R.out _
      case measure => simp [intOf]; omega
    · have HF := Lib.hid (fill_done hlt hwn hbr)
      clear hwn hbr
      go_wp2_with fail
      go_ret
      exact HF.out

end Go.Proofs.Ytejpbjglfjhjkaa

namespace Go.Proofs.Ytejpbjglfjhjkaa
open Go.RowKit

/-- The head of a round: the block T holds the pair ahead. -/
def GoodRel2 (a b : List Int) (l : List Pr) (w : World) (T : Nat) (r : Bool) (i : Value) (wr : World) : Prop :=
  ∃ (k : Nat) (p : Pr), k ≤ l.length ∧ i = .int .i64 (k : Int) ∧ Hid (p = befP (prevAt l k)) ∧ -1 ≤ p.1 ∧ -1 ≤ p.2 ∧ wr.heap[T]? = some (.cells #[.int .i64 p.1, .int .i64 p.2] 28) ∧ Below w.heap.size w wr ∧ Hid (goodGo a b (prevAt l k) (l.drop k) = r)
theorem cell_of {w : World} {T : Nat} {x y : Value} {t : TypeId} (h : w.heap[T]? = some (.cells #[x, y] t)) : w.cell? ⟨T, 0, none⟩ = some x ∧ w.cell? ⟨T, 1, none⟩ = some y ∧ w.frozen? ⟨T, 0, none⟩ = false ∧ w.frozen? ⟨T, 1, none⟩ = false ∧ T < w.heap.size := by
  refine ⟨by simp [World.cell?, h], by simp [World.cell?, h], by simp [World.frozen?, h], by simp [World.frozen?, h], (Array.getElem?_eq_some_iff.1 h).1⟩
theorem heap_new (w : World) (o : Obj) : (w.alloc o).heap[w.heap.size]? = some o := by
  show (w.heap.push o)[w.heap.size]? = _
  simp
theorem heap_old {w : World} {T : Nat} {x : Obj} (h : w.heap[T]? = some x) (o : Obj) (q : Nat) : ((w.alloc o).drewN q).heap[T]? = some x := by
  have hT := (Array.getElem?_eq_some_iff.1 h).1
  show (w.heap.push o)[T]? = _
  rw [Array.getElem?_push_lt hT, ← Array.getElem?_eq_getElem, h]
theorem bef_next {l : List Pr} {k : Nat} {c : Pr} (h : l[k]? = some c) : c = befP (prevAt l (k + 1)) := by
  show c = befP l[k]?
  rw [h]
  rfl
theorem good2_next {a b : List Int} {l : List Pr} {w wr : World} {T k : Nat} {r : Bool} {p c : Pr} (hk : k < l.length) (hc : l[k]? = some c) (hp : p = befP (prevAt l k)) (h1 : -1 ≤ p.1 ∧ -1 ≤ p.2) (ht : p.1 < c.1 ∧ p.2 < c.2 ∧ c.1 < (a.length : Int) ∧ c.2 < (b.length : Int) ∧ a[c.1.toNat]? = b[c.2.toNat]?)
    (hh : wr.heap[T]? = some (.cells #[.int .i64 p.1, .int .i64 p.2] 28)) (hT : w.heap.size ≤ T) (hb : Below w.heap.size w wr) (hr : goodGo a b (prevAt l k) (l.drop k) = r) :
    GoodRel2 a b l w T r (.int .i64 (k + 1 : Nat)) ((wr.setCell ⟨T, 0, none⟩ (.int .i64 c.1)).setCell ⟨T, 1, none⟩ (.int .i64 c.2)) := by
  have hbb := (hb.setCell (p := ⟨T, 0, none⟩) hT (.int .i64 c.1)).setCell (p := ⟨T, 1, none⟩) hT (.int .i64 c.2)
  refine ⟨k + 1, c, by omega, rfl, bef_next hc, by omega, by omega, ?_, hbb, ?_⟩
  · have e1 := heap_setCell_same wr T 0 _ _ (.int .i64 c.1) hh
    have e2 := heap_setCell_same _ T 1 _ _ (.int .i64 c.2) e1
    rw [e2]
    rfl
  · show _ = _
    rw [← hr, good_step hc, ok_bef (by rw [← hp]; exact h1), ← hp, decide_eq_true ht, Bool.true_and]
theorem good2_no {a b : List Int} {l : List Pr} {k : Nat} {r : Bool} {p c : Pr} (hc : l[k]? = some c) (hp : p = befP (prevAt l k)) (h1 : -1 ≤ p.1 ∧ -1 ≤ p.2) (hr : goodGo a b (prevAt l k) (l.drop k) = r) (ht : ¬ (p.1 < c.1 ∧ p.2 < c.2 ∧ c.1 < (a.length : Int) ∧ c.2 < (b.length : Int) ∧ a[c.1.toNat]? = b[c.2.toNat]?)) : false = r := by
  rw [← hr, good_step hc, ok_bef (by rw [← hp]; exact h1), ← hp, decide_eq_false ht, Bool.false_and]

set_option maxRecDepth 100000 in
set_option maxHeartbeats 3200000 in
theorem pgood (A B C : Option Addr) (n m N c d e : Nat) (a b : List Int) (l : List Pr) (w : World) (hn : a.length = n) (hm : b.length = m) (hN : l.length = N) (hbN : N ≤ 2147483648) (h1 : Row w A (iv a)) (h2 : Row w B (iv b)) (h3 : Row w C (pv l)) :
    Calls Try.prog 23 #[.slice A n c, .slice B m d, .slice C N e] w fun e w' => e = .returned (.bool (goodB a b l)) ∧ Below w.heap.size w w' := by
  obtain ⟨r, hr⟩ : ∃ r, goodB a b l = r := ⟨_, rfl⟩
  rw [hr]
  have HR := Lib.hid hr
  have HN := Lib.hid hn
  have HM := Lib.hid hm
  subst hN
  clear hr hn hm
  have HS : Hid (GoodRel2 a b l w w.heap.size r (.int .i64 0) (w.alloc (.cells #[.int .i64 (-1), .int .i64 (-1)] 28))) :=
    ⟨0, (-1, -1), Nat.zero_le _, rfl, rfl, by decide, by decide, heap_new _ _, (Below.refl _ _).alloc (Nat.le_refl _) _, HR.out⟩
  go_enter Try.func23, Try.ntmps23
  go_wp2_with fail
  go_loopw [13] (fun i wr => GoodRel2 a b l w w.heap.size r i wr) (fun i _ => l.length - (intOf i).toNat)
  case atStart => exact HS.out
  case round =>
    clear HS
    obtain ⟨k, p, hk, rfl, HP, p1, p2, hh, hbw, hkk⟩ := hrel
    by_cases hlt : k < l.length
    · have r1 := h1.below hbw
      have r2 := h2.below hbw
      obtain ⟨g, o, rfl, hc, hd⟩ := (h3.below hbw).pair hlt
      have HX : Hid (l[k]? = some l[k]) := List.getElem?_eq_getElem hlt
      generalize l[k] = z at *
      clear h1 h2 h3
      have NO := Lib.hid (good2_no (a := a) (b := b) HX.out HP.out ⟨p1, p2⟩ hkk.out)
      have YES := Lib.hid (fun o q => good2_next (a := a) (b := b) (wr := (wr.alloc o).drewN q) (w := w) (T := w.heap.size) (r := r) hlt HX.out HP.out ⟨p1, p2⟩)
      obtain ⟨z1, z2⟩ := z
      obtain ⟨q1, q2⟩ := p
      simp only at hc hd p1 p2 hh
      have hsz := hbw.size
      have HBW := Lib.hid (fun o => hbw.alloc hsz o)
      obtain ⟨u1, u2, u3, u4, u5⟩ := cell_of hh
      have HH := Lib.hid hh
      clear hbw hh
      by_cases c1 : z1 ≤ q1
      · have hf : Hid (false = r) := NO.out (by simp only; omega)
        have t1 : decide (z1 ≤ q1) = true := by simpa using c1
        clear NO YES r1 r2
        go_wp2_with fail
        go_quiet (fail)
        go_wp2_with fail
        go_ret
        exact ⟨ret_bool hf.out, below_drewN (HBW.out _) _⟩
      have t1 : decide (z1 ≤ q1) = false := by simpa using c1
      by_cases c2 : z2 ≤ q2
      · have hf : Hid (false = r) := NO.out (by simp only; omega)
        have t2 : decide (z2 ≤ q2) = true := by simpa using c2
        clear NO YES r1 r2
        go_wp2_with fail
        go_quiet (fail)
        go_wp2_with fail
        go_ret
        exact ⟨ret_bool hf.out, below_drewN (HBW.out _) _⟩
      have t2 : decide (z2 ≤ q2) = false := by simpa using c2
      by_cases c3 : (n : Int) ≤ z1
      · have hf : Hid (false = r) := NO.out (by simp only; rw [HN.out]; omega)
        have t3 : decide ((n : Int) ≤ z1) = true := by simpa using c3
        clear NO YES r1 r2
        go_wp2_with fail
        go_quiet (fail)
        go_wp2_with fail
        go_ret
        exact ⟨ret_bool hf.out, below_drewN (HBW.out _) _⟩
      by_cases c4 : (m : Int) ≤ z2
      · have hf : Hid (false = r) := NO.out (by simp only; rw [HM.out]; omega)
        have t3 : decide ((n : Int) ≤ z1) = false := by simpa using c3
        have t4 : decide ((m : Int) ≤ z2) = true := by simpa using c4
        clear NO YES r1 r2
        go_wp2_with fail
        go_quiet (fail)
        go_wp2_with fail
        go_ret
        exact ⟨ret_bool hf.out, below_drewN (HBW.out _) _⟩
      obtain ⟨x, rfl⟩ := Int.eq_ofNat_of_zero_le (by omega : 0 ≤ z1)
      obtain ⟨y, rfl⟩ := Int.eq_ofNat_of_zero_le (by omega : 0 ≤ z2)
      have x1 : x < n := by omega
      have y1 : y < m := by omega
      obtain ⟨ga, oa, rfl, ha⟩ := r1.int (k := x) (by rw [HN.out]; exact x1)
      obtain ⟨gb, ob, rfl, hbb⟩ := r2.int (k := y) (by rw [HM.out]; exact y1)
      have HU : Hid (a[x]? = some (a[x]'(by rw [HN.out]; exact x1))) := List.getElem?_eq_getElem _
      have HV : Hid (b[y]? = some (b[y]'(by rw [HM.out]; exact y1))) := List.getElem?_eq_getElem _
      generalize a[x]'(by rw [HN.out]; exact x1) = u at *
      generalize b[y]'(by rw [HM.out]; exact y1) = v at *
      have ha' : ∀ o', (wr.alloc o').cell? ⟨ga, oa + x, none⟩ = some (.int .i64 u) := fun o' => (((Below.refl _ wr).alloc (Nat.le_refl _) o').cell (p := ⟨ga, oa + x, none⟩) (World.block_lt_of_cell? _ _ ha)).trans ha
      have hb2 : ∀ o', (wr.alloc o').cell? ⟨gb, ob + y, none⟩ = some (.int .i64 v) := fun o' => (((Below.refl _ wr).alloc (Nat.le_refl _) o').cell (p := ⟨gb, ob + y, none⟩) (World.block_lt_of_cell? _ _ hbb)).trans hbb
      have t3 : decide ((n : Int) ≤ (x : Int)) = false := by simp; omega
      have t4 : decide ((m : Int) ≤ (y : Int)) = false := by simp; omega
      have t3' : decide (n ≤ x) = false := by simp; omega
      have t4' : decide (m ≤ y) = false := by simp; omega
      by_cases huv : u = v
      · subst huv
        have ht : Hid (q1 < (x : Int) ∧ q2 < (y : Int) ∧ (x : Int) < (a.length : Int) ∧ (y : Int) < (b.length : Int) ∧ a[(x : Int).toNat]? = b[(y : Int).toNat]?) := by
          refine ⟨by omega, by omega, by rw [HN.out]; omega, by rw [HM.out]; omega, ?_⟩
          rw [Int.toNat_natCast, Int.toNat_natCast, HU.out, HV.out]
        have R := Lib.hid (fun o q => YES.out o q ht.out (heap_old HH.out o q) (Nat.le_refl _) (below_drewN (HBW.out o) q) hkk.out)
        clear NO YES ht r1 r2 ha hbb
        go_wp2_with fail
        go_quiet (fail)
        go_wp2_with fail
        go_roundw
        case rel => exact R.out _ _
        case measure => simp [intOf]; omega
      · have hf : Hid (false = r) := NO.out (by
          intro h
          have h5 := h.2.2.2.2
          simp only [Int.toNat_natCast] at h5
          rw [HU.out, HV.out] at h5
          exact huv (Option.some.inj h5))
        have t5 : (u != v) = true := by simpa using huv
        clear NO YES r1 r2 ha hbb
        go_wp2_with fail
        go_quiet (fail)
        go_wp2_with fail
        go_ret
        exact ⟨ret_bool hf.out, below_drewN (HBW.out _) _⟩
    · have hf : Hid (true = r) := by show _ = _; rw [← hkk.out, good_end (by omega)]
      clear hh
      go_wp2_with fail
      go_ret
      exact ⟨ret_bool hf.out, hbw⟩

end Go.Proofs.Ytejpbjglfjhjkaa

namespace Go.Proofs.Ytejpbjglfjhjkaa
open Go.RowKit

theorem iv_dropX (l : List Int) (k : Nat) : (iv l).drop k = iv (l.drop k) := by simp [iv, List.map_drop]
theorem iv_takeX (l : List Int) (k : Nat) : (iv l).take k = iv (l.take k) := by simp [iv, List.map_take]

set_option maxRecDepth 100000 in
theorem size_int (w : World) : (sizeOf (Try.prog.elem 26)).run Try.prog w = .ok 1 w := by
  rfl

set_option maxRecDepth 100000 in
/-- l[lo:]. -/
theorem slice_from (A : Option Addr) (n c lo : Nat) (l : List Int) (w0 : World) (h : Row w0 A (iv l)) (hn : l.length = n) (hc : n ≤ c) (hlo : lo ≤ n) :
    ∃ A' c', (∀ w, (Instr.sliceAt 26 (.slice A n c) (some (.int .i64 (lo : Int))) none none).run Try.prog w = .ok (.slice A' (n - lo) c') w) ∧ n - lo ≤ c' ∧ Row w0 A' (iv (l.drop lo)) := by
  refine ⟨if c = lo then A else A.map (·.add (lo * 1)), c - lo, fun w => ?_, by omega, ?_⟩
  · rw [run_sliceAt_slice w 26 _ _ _ _ Try.underlying26, run_slice_l w 26 A n c Try.underlying26 .i64 (lo : Int) (by omega) (by omega), size_int]
    simp [Result.andThen, sliced]
  · have := h.cut lo n c hlo (by rw [iv_length]; omega) (by rw [iv_length]; omega)
    rw [iv_dropX, List.take_of_length_le (by rw [iv_length, List.length_drop]; omega)] at this
    rw [Nat.mul_one]
    exact this
set_option maxRecDepth 100000 in
/-- l[:hi]. -/
theorem slice_to (A : Option Addr) (n c hi : Nat) (l : List Int) (w0 : World) (h : Row w0 A (iv l)) (hhi : hi ≤ c) :
    (∀ w, (Instr.sliceAt 26 (.slice A n c) none (some (.int .i64 (hi : Int))) none).run Try.prog w = .ok (.slice A hi c) w) ∧ Row w0 A (iv (l.take hi)) := by
  refine ⟨fun w => ?_, ?_⟩
  · rw [run_sliceAt_slice w 26 _ _ _ _ Try.underlying26, run_slice_h w 26 A n c Try.underlying26 .i64 (hi : Int) (by omega) (by omega), size_int]
    cases A <;> simp [Result.andThen, sliced, Addr.add]
  · rw [← iv_takeX]
    exact h.take hi
end Go.Proofs.Ytejpbjglfjhjkaa

namespace Go.Proofs.Ytejpbjglfjhjkaa
open Go.RowKit

end Go.Proofs.Ytejpbjglfjhjkaa
