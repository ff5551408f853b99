/-
  Contract of package pairs' Good.
-/
import Derived.Test.YtobijkjonnoeiaaPrP
import Derived.Test.YtobijkjonnoeiaaOwnS
import Derived.Test.YtobijkjonnoeiaaLow
namespace Go.Proofs.Ytobijkjonnoeiaa
open Go.RowKit

/-- The head of a round: the block T holds the pair ahead. -/
def GoodRel2 (a b : List Int) (l : List Pr) (w : World) (T : Nat) (r : Bool) (i : Value) (wr : World) : Prop :=
  ∃ (k : Nat) (p : Pr), k ≤ l.length ∧ i = .int .i64 (k : Int) ∧ Hid (p = befP (prevAt l k)) ∧ -1 ≤ p.1 ∧ -1 ≤ p.2 ∧ wr.heap[T]? = some (.cells #[.int .i64 p.1, .int .i64 p.2] 26) ∧ Below w.heap.size w wr ∧ Hid (goodGo a b (prevAt l k) (l.drop k) = r)
theorem cell_of {w : World} {T : Nat} {x y : Value} {t : TypeId} (h : w.heap[T]? = some (.cells #[x, y] t)) : w.cell? ⟨T, 0, none⟩ = some x ∧ w.cell? ⟨T, 1, none⟩ = some y ∧ w.frozen? ⟨T, 0, none⟩ = false ∧ w.frozen? ⟨T, 1, none⟩ = false ∧ T < w.heap.size := by
  refine ⟨by simp [World.cell?, h], by simp [World.cell?, h], by simp [World.frozen?, h], by simp [World.frozen?, h], (Array.getElem?_eq_some_iff.1 h).1⟩
theorem heap_new (w : World) (o : Obj) : (w.alloc o).heap[w.heap.size]? = some o := by
  show (w.heap.push o)[w.heap.size]? = _
  simp
theorem heap_old {w : World} {T : Nat} {x : Obj} (h : w.heap[T]? = some x) (o : Obj) (q : Nat) : ((w.alloc o).drewN q).heap[T]? = some x := by
  have hT := (Array.getElem?_eq_some_iff.1 h).1
  show (w.heap.push o)[T]? = _
  rw [Array.getElem?_push_lt hT, ← Array.getElem?_eq_getElem, h]
theorem bef_next {l : List Pr} {k : Nat} {c : Pr} (h : l[k]? = some c) : c = befP (prevAt l (k + 1)) := by
  show c = befP l[k]?
  rw [h]
  rfl
theorem good2_next {a b : List Int} {l : List Pr} {w wr : World} {T k : Nat} {r : Bool} {p c : Pr} (hk : k < l.length) (hc : l[k]? = some c) (hp : p = befP (prevAt l k)) (h1 : -1 ≤ p.1 ∧ -1 ≤ p.2) (ht : p.1 < c.1 ∧ p.2 < c.2 ∧ c.1 < (a.length : Int) ∧ c.2 < (b.length : Int) ∧ a[c.1.toNat]? = b[c.2.toNat]?)
    (hh : wr.heap[T]? = some (.cells #[.int .i64 p.1, .int .i64 p.2] 26)) (hT : w.heap.size ≤ T) (hb : Below w.heap.size w wr) (hr : goodGo a b (prevAt l k) (l.drop k) = r) :
    GoodRel2 a b l w T r (.int .i64 (k + 1 : Nat)) ((wr.setCell ⟨T, 0, none⟩ (.int .i64 c.1)).setCell ⟨T, 1, none⟩ (.int .i64 c.2)) := by
  have hbb := (hb.setCell (p := ⟨T, 0, none⟩) hT (.int .i64 c.1)).setCell (p := ⟨T, 1, none⟩) hT (.int .i64 c.2)
  refine ⟨k + 1, c, by omega, rfl, bef_next hc, by omega, by omega, ?_, hbb, ?_⟩
  · have e1 := heap_setCell_same wr T 0 _ _ (.int .i64 c.1) hh
    have e2 := heap_setCell_same _ T 1 _ _ (.int .i64 c.2) e1
    rw [e2]
    rfl
  · show _ = _
    rw [← hr, good_step hc, ok_bef (by rw [← hp]; exact h1), ← hp, decide_eq_true ht, Bool.true_and]
theorem good2_no {a b : List Int} {l : List Pr} {k : Nat} {r : Bool} {p c : Pr} (hc : l[k]? = some c) (hp : p = befP (prevAt l k)) (h1 : -1 ≤ p.1 ∧ -1 ≤ p.2) (hr : goodGo a b (prevAt l k) (l.drop k) = r) (ht : ¬ (p.1 < c.1 ∧ p.2 < c.2 ∧ c.1 < (a.length : Int) ∧ c.2 < (b.length : Int) ∧ a[c.1.toNat]? = b[c.2.toNat]?)) : false = r := by
  rw [← hr, good_step hc, ok_bef (by rw [← hp]; exact h1), ← hp, decide_eq_false ht, Bool.false_and]

set_option maxRecDepth 100000 in
set_option maxHeartbeats 3200000 in
theorem pgood (A B C : Option Addr) (n m N c d e : Nat) (a b : List Int) (l : List Pr) (w : World) (hn : a.length = n) (hm : b.length = m) (hN : l.length = N) (hbN : N ≤ 2147483648) (h1 : Row w A (iv a)) (h2 : Row w B (iv b)) (h3 : Row w C (pv l)) :
    Calls Try.prog 21 #[.slice A n c, .slice B m d, .slice C N e] w fun e w' => e = .returned (.bool (goodB a b l)) ∧ Below w.heap.size w w' := by
  obtain ⟨r, hr⟩ : ∃ r, goodB a b l = r := ⟨_, rfl⟩
  rw [hr]
  have HR := Lib.hid hr
  have HN := Lib.hid hn
  have HM := Lib.hid hm
  subst hN
  clear hr hn hm
  have HS : Hid (GoodRel2 a b l w w.heap.size r (.int .i64 0) (w.alloc (.cells #[.int .i64 (-1), .int .i64 (-1)] 26))) :=
    ⟨0, (-1, -1), Nat.zero_le _, rfl, rfl, by decide, by decide, heap_new _ _, (Below.refl _ _).alloc (Nat.le_refl _) _, HR.out⟩
  go_enter Try.func21, Try.ntmps21
  go_wp2_with fail
  go_loopw [13] (fun i wr => GoodRel2 a b l w w.heap.size r i wr) (fun i _ => l.length - (intOf i).toNat)
  case atStart => exact HS.out
  case round =>
    clear HS
    obtain ⟨k, p, hk, rfl, HP, p1, p2, hh, hbw, hkk⟩ := hrel
    by_cases hlt : k < l.length
    · have r1 := h1.below hbw
      have r2 := h2.below hbw
      obtain ⟨g, o, rfl, hc, hd⟩ := (h3.below hbw).pair hlt
      have HX : Hid (l[k]? = some l[k]) := List.getElem?_eq_getElem hlt
      generalize l[k] = z at *
      clear h1 h2 h3
      have NO := Lib.hid (good2_no (a := a) (b := b) HX.out HP.out ⟨p1, p2⟩ hkk.out)
      have YES := Lib.hid (fun o q => good2_next (a := a) (b := b) (wr := (wr.alloc o).drewN q) (w := w) (T := w.heap.size) (r := r) hlt HX.out HP.out ⟨p1, p2⟩)
      obtain ⟨z1, z2⟩ := z
      obtain ⟨q1, q2⟩ := p
      simp only at hc hd p1 p2 hh
      have hsz := hbw.size
      have HBW := Lib.hid (fun o => hbw.alloc hsz o)
      obtain ⟨u1, u2, u3, u4, u5⟩ := cell_of hh
      have HH := Lib.hid hh
      clear hbw hh
      by_cases c1 : z1 ≤ q1
      · have hf : Hid (false = r) := NO.out (by simp only; omega)
        have t1 : decide (z1 ≤ q1) = true := by simpa using c1
        clear NO YES r1 r2
        go_wp2_with fail
        go_quiet (fail)
        go_wp2_with fail
        go_ret
        exact ⟨ret_bool hf.out, below_drewN (HBW.out _) _⟩
      have t1 : decide (z1 ≤ q1) = false := by simpa using c1
      by_cases c2 : z2 ≤ q2
      · have hf : Hid (false = r) := NO.out (by simp only; omega)
        have t2 : decide (z2 ≤ q2) = true := by simpa using c2
        clear NO YES r1 r2
        go_wp2_with fail
        go_quiet (fail)
        go_wp2_with fail
        go_ret
        exact ⟨ret_bool hf.out, below_drewN (HBW.out _) _⟩
      have t2 : decide (z2 ≤ q2) = false := by simpa using c2
      by_cases c3 : (n : Int) ≤ z1
      · have hf : Hid (false = r) := NO.out (by simp only; rw [HN.out]; omega)
        have t3 : decide ((n : Int) ≤ z1) = true := by simpa using c3
        clear NO YES r1 r2
        go_wp2_with fail
        go_quiet (fail)
        go_wp2_with fail
        go_ret
        exact ⟨ret_bool hf.out, below_drewN (HBW.out _) _⟩
      by_cases c4 : (m : Int) ≤ z2
      · have hf : Hid (false = r) := NO.out (by simp only; rw [HM.out]; omega)
        have t3 : decide ((n : Int) ≤ z1) = false := by simpa using c3
        have t4 : decide ((m : Int) ≤ z2) = true := by simpa using c4
        clear NO YES r1 r2
        go_wp2_with fail
        go_quiet (fail)
        go_wp2_with fail
        go_ret
        exact ⟨ret_bool hf.out, below_drewN (HBW.out _) _⟩
      obtain ⟨x, rfl⟩ := Int.eq_ofNat_of_zero_le (by omega : 0 ≤ z1)
      obtain ⟨y, rfl⟩ := Int.eq_ofNat_of_zero_le (by omega : 0 ≤ z2)
      have x1 : x < n := by omega
      have y1 : y < m := by omega
      obtain ⟨ga, oa, rfl, ha⟩ := r1.int (k := x) (by rw [HN.out]; exact x1)
      obtain ⟨gb, ob, rfl, hbb⟩ := r2.int (k := y) (by rw [HM.out]; exact y1)
      have HU : Hid (a[x]? = some (a[x]'(by rw [HN.out]; exact x1))) := List.getElem?_eq_getElem _
      have HV : Hid (b[y]? = some (b[y]'(by rw [HM.out]; exact y1))) := List.getElem?_eq_getElem _
      generalize a[x]'(by rw [HN.out]; exact x1) = u at *
      generalize b[y]'(by rw [HM.out]; exact y1) = v at *
      have ha' : ∀ o', (wr.alloc o').cell? ⟨ga, oa + x, none⟩ = some (.int .i64 u) := fun o' => (((Below.refl _ wr).alloc (Nat.le_refl _) o').cell (p := ⟨ga, oa + x, none⟩) (World.block_lt_of_cell? _ _ ha)).trans ha
      have hb2 : ∀ o', (wr.alloc o').cell? ⟨gb, ob + y, none⟩ = some (.int .i64 v) := fun o' => (((Below.refl _ wr).alloc (Nat.le_refl _) o').cell (p := ⟨gb, ob + y, none⟩) (World.block_lt_of_cell? _ _ hbb)).trans hbb
      have t3 : decide ((n : Int) ≤ (x : Int)) = false := by simp; omega
      have t4 : decide ((m : Int) ≤ (y : Int)) = false := by simp; omega
      have t3' : decide (n ≤ x) = false := by simp; omega
      have t4' : decide (m ≤ y) = false := by simp; omega
      by_cases huv : u = v
      · subst huv
        have ht : Hid (q1 < (x : Int) ∧ q2 < (y : Int) ∧ (x : Int) < (a.length : Int) ∧ (y : Int) < (b.length : Int) ∧ a[(x : Int).toNat]? = b[(y : Int).toNat]?) := by
          refine ⟨by omega, by omega, by rw [HN.out]; omega, by rw [HM.out]; omega, ?_⟩
          rw [Int.toNat_natCast, Int.toNat_natCast, HU.out, HV.out]
        have R := Lib.hid (fun o q => YES.out o q ht.out (heap_old HH.out o q) (Nat.le_refl _) (below_drewN (HBW.out o) q) hkk.out)
        clear NO YES ht r1 r2 ha hbb
        go_wp2_with fail
        go_quiet (fail)
        go_wp2_with fail
        go_roundw
        case rel => exact R.out _ _
        case measure => simp [intOf]; omega
      · have hf : Hid (false = r) := NO.out (by
          intro h
          have h5 := h.2.2.2.2
          simp only [Int.toNat_natCast] at h5
          rw [HU.out, HV.out] at h5
          exact huv (Option.some.inj h5))
        have t5 : (u != v) = true := by simpa using huv
        clear NO YES r1 r2 ha hbb
        go_wp2_with fail
        go_quiet (fail)
        go_wp2_with fail
        go_ret
        exact ⟨ret_bool hf.out, below_drewN (HBW.out _) _⟩
    · have hf : Hid (true = r) := by show _ = _; rw [← hkk.out, good_end (by omega)]
      clear hh
      go_wp2_with fail
      go_ret
      exact ⟨ret_bool hf.out, hbw⟩

end Go.Proofs.Ytobijkjonnoeiaa
