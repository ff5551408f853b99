/-
  Words and contracts that the proof leans on.
-/
import Derived.Test.YtejpbjglfjhjkaaM12
import Derived.Test.YtejpbjglfjhjkaaM14
import Derived.Test.YtejpbjglfjhjkaaM3
import Derived.BigRegion
import Derived.Deep.DeepCutAuto
namespace Go.Proofs.Ytejpbjglfjhjkaa
open Go.RowKit

/-- Cells in memory, two numbers each. -/
def cv (C : Nat → Pr) (c : Nat) : Value := .int .i64 (if c % 2 = 0 then (C (c / 2)).1 else (C (c / 2)).2)
theorem cv_even (C : Nat → Pr) (j : Nat) : cv C (j * 2) = .int .i64 (C j).1 := by
  unfold cv
  rw [if_pos (by omega), show j * 2 / 2 = j by omega]
theorem cv_odd (C : Nat → Pr) (j : Nat) : cv C (j * 2 + 1) = .int .i64 (C j).2 := by
  unfold cv
  rw [if_neg (by omega), show (j * 2 + 1) / 2 = j by omega]
def IsCells (w : World) (g m : Nat) (C : Nat → Pr) : Prop := w.rowIs g 51 (m * 2) (cv C)
theorem IsCells.one {w : World} {g m j : Nat} {C : Nat → Pr} (h : IsCells w g m C) (hj : j < m) : w.cell? ⟨g, j * 2, none⟩ = some (.int .i64 (C j).1) ∧ w.cell? ⟨g, j * 2 + 1, none⟩ = some (.int .i64 (C j).2) := by
  have h1 := World.rowIs.cell h (i := j * 2) (by omega)
  have h2 := World.rowIs.cell h (i := j * 2 + 1) (by omega)
  rw [cv_even] at h1
  rw [cv_odd] at h2
  exact ⟨h1, h2⟩
theorem IsCells.congr {w : World} {g m : Nat} {C D : Nat → Pr} (h : IsCells w g m C) (e : ∀ j, j < m → C j = D j) : IsCells w g m D := World.rowIs.congr h fun i hi => by
  unfold cv
  rw [e (i / 2) (by omega)]
theorem IsCells.set2 {w : World} {g m j : Nat} {C : Nat → Pr} (h : IsCells w g m C) (x y : Int) : IsCells ((w.setCell ⟨g, j * 2, none⟩ (.int .i64 x)).setCell ⟨g, j * 2 + 1, none⟩ (.int .i64 y)) g m (fun c => if c = j then (x, y) else C c) := by
  refine World.rowIs.congr (World.rowIs.set (World.rowIs.set h (j * 2) _) (j * 2 + 1) _) fun i _ => ?_
  unfold cv
  by_cases e1 : i = j * 2 + 1
  · subst e1
    simp only [if_true, show ¬ (j * 2 + 1) % 2 = 0 by omega, if_false, show (j * 2 + 1) / 2 = j by omega]
  · by_cases e2 : i = j * 2
    · subst e2
      simp only [if_neg e1, if_true, show j * 2 % 2 = 0 by omega, show j * 2 / 2 = j by omega]
    · simp only [if_neg e1, if_neg e2, if_neg (show ¬ i / 2 = j by omega)]
theorem IsCells.setS {w : World} {g m j : Nat} {C : Nat → Pr} (h : IsCells w g m C) (y : Int) : IsCells (w.setCell ⟨g, j * 2 + 1, none⟩ (.int .i64 y)) g m (fun c => if c = j then ((C c).1, y) else C c) := by
  refine World.rowIs.congr (World.rowIs.set h (j * 2 + 1) _) fun i _ => ?_
  unfold cv
  by_cases e1 : i = j * 2 + 1
  · subst e1
    simp only [if_true, show ¬ (j * 2 + 1) % 2 = 0 by omega, if_false, show (j * 2 + 1) / 2 = j by omega]
  · by_cases e2 : i / 2 = j
    · simp only [if_neg e1, if_pos e2, if_pos (show i % 2 = 0 by omega)]
    · simp only [if_neg e1, if_neg e2]
theorem IsCells.other {w : World} {g m : Nat} {C : Nat → Pr} (h : IsCells w g m C) {p : Addr} (hne : g ≠ p.block) (v : Value) : IsCells (w.setCell p v) g m C := World.rowIs.setOther h hne v
theorem IsCells.alloc {w : World} {g m : Nat} {C : Nat → Pr} (h : IsCells w g m C) (o : Obj) : IsCells (w.alloc o) g m C := World.rowIs.alloc h o

/-- A variable of two cells. -/
def Box2 (w : World) (P : Nat) (c : Pr) : Prop := IsCells w P 1 (fun _ => c)
theorem Box2.cells {w : World} {P : Nat} {c : Pr} (h : Box2 w P c) : w.cell? ⟨P, 0, none⟩ = some (.int .i64 c.1) ∧ w.cell? ⟨P, 1, none⟩ = some (.int .i64 c.2) ∧ w.frozen? ⟨P, 0, none⟩ = false ∧ w.frozen? ⟨P, 1, none⟩ = false := by
  obtain ⟨h1, h2⟩ := IsCells.one (j := 0) h (by omega)
  exact ⟨h1, h2, World.rowIs.frozen h 0, World.rowIs.frozen h 1⟩
theorem Box2.set {w : World} {P : Nat} {c : Pr} (h : Box2 w P c) (x y : Int) : Box2 ((w.setCell ⟨P, 0, none⟩ (.int .i64 x)).setCell ⟨P, 1, none⟩ (.int .i64 y)) P (x, y) := by
  have := IsCells.set2 (j := 0) h x y
  refine IsCells.congr this fun j hj => ?_
  rw [if_pos (by omega)]
theorem Box2.other {w : World} {P : Nat} {c : Pr} (h : Box2 w P c) {p : Addr} (hne : P ≠ p.block) (v : Value) : Box2 (w.setCell p v) P c := World.rowIs.setOther h hne v
theorem box_new (w : World) (x y : Int) : Box2 (w.alloc (.cells #[.int .i64 x, .int .i64 y] 51)) w.heap.size (x, y) := by
  refine World.rowIs_alloc w _ _ _ fun i hi => ?_
  have : i = 0 ∨ i = 1 := by simp at hi; omega
  rcases this with rfl | rfl <;> rfl

/-- The boxes of a row's two cells. -/
def RwM (x : Int) (b : List Int) (g m hi P Q : Nat) (C : Nat → Pr) (W X : Pr) (t : Nat) (w wr : World) : Prop := Box2 wr P W ∧ Box2 wr Q X ∧ IsCells wr g (m + 1) (rowT x b C hi t) ∧ w.grownBy wr (some g)
theorem RwM.p {x : Int} {b : List Int} {g m hi P Q t : Nat} {C : Nat → Pr} {W X : Pr} {w wr : World} (h : RwM x b g m hi P Q C W X t w wr) (h1 : P ≠ Q) (h2 : P ≠ g) (h3 : w.heap.size ≤ P) (u v : Int) : RwM x b g m hi P Q C (u, v) X t w ((wr.setCell ⟨P, 0, none⟩ (.int .i64 u)).setCell ⟨P, 1, none⟩ (.int .i64 v)) :=
  ⟨h.1.set u v, (h.2.1.other (fun e => h1 e.symm) _).other (fun e => h1 e.symm) _, (h.2.2.1.other (fun e => h2 e.symm) _).other (fun e => h2 e.symm) _, grown_setS (grown_setS h.2.2.2 (.inr h3)) (.inr h3)⟩
theorem RwM.q {x : Int} {b : List Int} {g m hi P Q t : Nat} {C : Nat → Pr} {W X : Pr} {w wr : World} (h : RwM x b g m hi P Q C W X t w wr) (h1 : P ≠ Q) (h2 : Q ≠ g) (h3 : w.heap.size ≤ Q) (u v : Int) : RwM x b g m hi P Q C W (u, v) t w ((wr.setCell ⟨Q, 0, none⟩ (.int .i64 u)).setCell ⟨Q, 1, none⟩ (.int .i64 v)) :=
  ⟨(h.1.other h1 _).other h1 _, h.2.1.set u v, (h.2.2.1.other (fun e => h2 e.symm) _).other (fun e => h2 e.symm) _, grown_setS (grown_setS h.2.2.2 (.inr h3)) (.inr h3)⟩
theorem rowT_succ {x : Int} {b : List Int} {C : Nat → Pr} {hi t j : Nat} (hj : j + t + 1 = hi) (c : Nat) : rowT x b C hi (t + 1) c = if c = j then (if (C j).1 ≤ (wth x b C hi (t + 1)).1 then wth x b C hi (t + 1) else C j) else rowT x b C hi t c := by
  by_cases e : c = j
  · subst e
    rw [if_pos rfl, rowT_in (by omega), show hi - c = t + 1 by omega]
  · rw [if_neg e]
    unfold rowT
    by_cases g : hi - t ≤ c ∧ c < hi
    · rw [if_pos g, if_pos (by omega)]
    · rw [if_neg g, if_neg (by omega)]
theorem RwM.g {x : Int} {b : List Int} {g m hi P Q t j : Nat} {C : Nat → Pr} {W X : Pr} {w wr : World} (h : RwM x b g m hi P Q C W X t w wr) (h1 : P ≠ g) (h2 : Q ≠ g) (hj : j + t + 1 = hi) (hW : W = wth x b C hi (t + 1)) (hle : (C j).1 ≤ W.1) : RwM x b g m hi P Q C W X (t + 1) w ((wr.setCell ⟨g, j * 2, none⟩ (.int .i64 W.1)).setCell ⟨g, j * 2 + 1, none⟩ (.int .i64 W.2)) := by
  refine ⟨(h.1.other h1 _).other h1 _, (h.2.1.other h2 _).other h2 _, IsCells.congr (h.2.2.1.set2 (j := j) W.1 W.2) fun c _ => ?_, grown_setS (grown_setS h.2.2.2 (.inl rfl)) (.inl rfl)⟩
  rw [rowT_succ hj]
  by_cases e : c = j
  · rw [if_pos e, if_pos e, if_pos (by rw [← hW]; exact hle), hW]
  · rw [if_neg e, if_neg e]
theorem RwM.keep {x : Int} {b : List Int} {g m hi P Q t j : Nat} {C : Nat → Pr} {W X : Pr} {w wr : World} (h : RwM x b g m hi P Q C W X t w wr) (hj : j + t + 1 = hi) (hW : W = wth x b C hi (t + 1)) (hle : ¬ (C j).1 ≤ W.1) : RwM x b g m hi P Q C W X (t + 1) w wr := by
  refine ⟨h.1, h.2.1, IsCells.congr h.2.2.1 fun c _ => ?_, h.2.2.2⟩
  rw [rowT_succ hj]
  by_cases e : c = j
  · subst e
    rw [if_pos rfl, if_neg (by rw [← hW]; exact hle), rowT_out (by omega)]
  · rw [if_neg e]
def RwSLsR (x : Int) (b : List Int) (g m hi : Nat) (C : Nat → Pr) (w : World) (p q : Value) (wx : World) : Prop :=
  ∃ P Q : Nat, p = .pointer (some ⟨P, 0, none⟩) ∧ q = .pointer (some ⟨Q, 0, none⟩) ∧ P ≠ Q ∧ w.heap.size ≤ P ∧ w.heap.size ≤ Q ∧ RwM x b g m hi P Q C (wth x b C hi 0) (C (hi - 0)) 0 w wx
theorem rowT_zero (x : Int) (b : List Int) (C : Nat → Pr) (hi : Nat) : rowT x b C hi 0 = C := by
  funext c
  exact rowT_out (by omega)
theorem rwS_1 {x : Int} {b : List Int} {g m hi : Nat} {C : Nat → Pr} {w : World} (rC : IsCells w g (m + 1) C) : RwSLsR x b g m hi C w (.pointer (some ⟨w.heap.size, 0, none⟩)) (.pointer (some ⟨w.heap.size + 1, 0, none⟩)) ((w.alloc (.cells #[.int .i64 (-1), .int .i64 0] 51)).alloc (.cells #[.int .i64 (C hi).1, .int .i64 (C hi).2] 51)).drew := by
  refine ⟨_, _, rfl, rfl, by omega, Nat.le_refl _, by omega, IsCells.alloc (box_new w (-1) 0) _, ?_, ?_, grown_drew (grown_alloc (grown_alloc (World.grownBy.refl _ _) _) _)⟩
  · have := box_new (w.alloc (.cells #[.int .i64 (-1), .int .i64 0] 51)) (C hi).1 (C hi).2
    rw [World.size_alloc] at this
    exact this
  · rw [rowT_zero]
    exact (rC.alloc _).alloc _
theorem rwS_2 {x : Int} {b : List Int} {g m hi : Nat} {C : Nat → Pr} {w : World} (rC : IsCells w g (m + 1) C) : RwSLsR x b g m hi C w (.pointer (some ⟨w.heap.size + 1, 0, none⟩)) (.pointer (some ⟨w.heap.size, 0, none⟩)) ((w.alloc (.cells #[.int .i64 (C hi).1, .int .i64 (C hi).2] 51)).alloc (.cells #[.int .i64 (-1), .int .i64 0] 51)).drew := by
  refine ⟨_, _, rfl, rfl, by omega, by omega, Nat.le_refl _, ?_, IsCells.alloc (box_new w (C hi).1 (C hi).2) _, ?_, grown_drew (grown_alloc (grown_alloc (World.grownBy.refl _ _) _) _)⟩
  · have := box_new (w.alloc (.cells #[.int .i64 (C hi).1, .int .i64 (C hi).2] 51)) (-1) 0
    rw [World.size_alloc] at this
    exact this
  · rw [rowT_zero]
    exact (rC.alloc _).alloc _
/-- The head of a round. -/
def RwRel (x : Int) (b : List Int) (g m hi lo P Q : Nat) (C : Nat → Pr) (w : World) (v : Value) (wr : World) : Prop :=
  ∃ t : Nat, t ≤ hi - lo ∧ v = .int .i64 ((hi : Int) - 1 - (t : Int)) ∧ RwM x b g m hi P Q C (wth x b C hi t) (C (hi - t)) t w wr

set_option maxRecDepth 100000 in
set_option maxHeartbeats 1600000 in
theorem row_any (x : Int) (A : Option Addr) (m d g lo hi c2 N : Nat) (b : List Int) (C : Nat → Pr) (w0 w : World) (hm : b.length = m) (hm' : m ≤ 1048576) (hb : Row w0 A (iv b)) (h0 : Below w0.heap.size w0 w) (hg0 : w0.heap.size ≤ g) (hhi : hi ≤ m) (hlo : lo ≤ hi) (hN : N ≤ 1048576) (hB : Bnd N C) (rC : IsCells w g (m + 1) C) :
    Calls Try.prog 39 #[.int .i64 x, .slice A m d, .int .i64 (lo : Int), .int .i64 (hi : Int), .slice (some ⟨g, 0, none⟩) (m + 1) c2] w fun e w' => (∃ v, e = .returned v) ∧ IsCells w' g (m + 1) (rowT x b C hi (hi - lo)) ∧ w.grownBy w' (some g) := by
  have HM := Lib.hid hm
  clear hm
  have hs := h0.size
  obtain ⟨u1, u2⟩ := rC.one (j := hi) (by omega)
  have hgw : g < w.heap.size := World.rowIs.lt rC
  go_enter Try.func39, Try.ntmps39
  go_upto_region 0 with (fail)
  go_cut [10, 11, 13, 14, 15, 16, 17] (fun p q _ _ _ _ _ wx => RwSLsR x b g m hi C w p q wx)
  case first =>
    go_region
    all_goals (go_wp2_with fail; go_meet)
    · exact rwS_1 rC
    · exact rwS_2 rC
  case rest =>
    obtain ⟨P, Q, rfl, rfl, hPQ, hPw, hQw, hM⟩ := hcut
    have hPg : P ≠ g := by omega
    have hQg : Q ≠ g := by omega
    clear u1 u2 rC
    go_wp2_with fail
    go_loopw [12] (fun v wr => RwRel x b g m hi lo P Q C w v wr) (fun v _ => (intOf v + 1 - (lo : Int)).toNat)
    case atStart => exact ⟨0, Nat.zero_le _, by congr 1; omega, hM⟩
    case round =>
      clear hM
      obtain ⟨t, ht, rfl, hM⟩ := hrel
      by_cases hlt : t < hi - lo
      · obtain ⟨j, hj⟩ : ∃ j, j + t + 1 = hi := ⟨hi - 1 - t, by omega⟩
        have hjm : j < m := by omega
        have hjl : lo ≤ j := by omega
        rw [show (hi : Int) - 1 - (t : Int) = (j : Int) by omega]
        obtain ⟨gb, ob, rfl, hc⟩ := (hb.below (h0.grown hM.2.2.2 hs (fun r e => by cases e; exact hg0))).int (k := j) (by rw [HM.out]; exact hjm)
        have HY : Hid (b[j]? = some (b[j]'(by rw [HM.out]; exact hjm))) := List.getElem?_eq_getElem _
        generalize b[j]'(by rw [HM.out]; exact hjm) = y at *
        have HR : Hid (∀ wr', RwM x b g m hi P Q C (wth x b C hi (t + 1)) (C (hi - (t + 1))) (t + 1) w wr' → RwRel x b g m hi lo P Q C w (.int .i64 ((j : Int) - 1)) wr') := fun wr' h => ⟨t + 1, by omega, by congr 1; omega, h⟩
        have HJ := Lib.hid hj
        have hcj : Hid (rowT x b C hi t j = C j) := rowT_out (by omega)
        have hxj : Hid (C (hi - (t + 1)) = C j) := by show _ = _; rw [show hi - (t + 1) = j by omega]
        have e2 : Hid (hi - 1 - t = j) := by show _ = _; omega
        have bj := hB j
        have bt := hB (hi - t)
        have bw := bnd_wth (x := x) (b := b) (hi := hi) hB t
        clear hb h0 hj
        by_cases heq : y = x
        · subst heq
          have HV : Hid (wth y b C hi (t + 1) = ((C (hi - t)).1 + 1, (C (hi - t)).2)) := by show _ = _; rw [wth, e2.out, if_pos HY.out]
          obtain ⟨p1, p2, p3, p4⟩ := hM.1.cells
          obtain ⟨q1, q2, q3, q4⟩ := hM.2.1.cells
          have hM2 := Lib.hid (hM.p hPQ hPg hPw ((C (hi - t)).1 + 1) (C (hi - t)).2)
          clear hM
          go_upto_region 6 with (fail)
          generalize (wr.setCell ⟨P, 0, none⟩ (.int .i64 ((C (hi - t)).1 + 1))).setCell ⟨P, 1, none⟩ (.int .i64 (C (hi - t)).2) = wx at hM2 ⊢
          clear p1 p2 p3 p4 q1 q2 q3 q4 hc
          have hM := hM2.out
          clear hM2
          rw [← HV.out] at hM
          obtain ⟨W, hW⟩ : ∃ W, W = wth y b C hi (t + 1) := ⟨_, rfl⟩
          rw [← hW] at hM
          have HW := Lib.hid hW
          clear hW HV
          obtain ⟨p1, p2, p3, p4⟩ := hM.1.cells
          obtain ⟨q1, q2, q3, q4⟩ := hM.2.1.cells
          obtain ⟨r1, r2⟩ := hM.2.2.1.one (j := j) (by omega)
          rw [hcj.out] at r1 r2
          have hM2 := Lib.hid (hM.q hPQ hQg hQw (C j).1 (C j).2)
          clear hM
          go_upto_region 7 with (fail)
          generalize (wx.setCell ⟨Q, 0, none⟩ (.int .i64 (C j).1)).setCell ⟨Q, 1, none⟩ (.int .i64 (C j).2) = wy at hM2 ⊢
          clear p1 p2 p3 p4 q1 q2 q3 q4 r1 r2
          have hM := hM2.out
          clear hM2
          obtain ⟨p1, p2, p3, p4⟩ := hM.1.cells
          obtain ⟨q1, q2, q3, q4⟩ := hM.2.1.cells
          obtain ⟨r1, r2⟩ := hM.2.2.1.one (j := j) (by omega)
          have r3 := World.rowIs.frozen hM.2.2.1 (j * 2)
          have r4 := World.rowIs.frozen hM.2.2.1 (j * 2 + 1)
          by_cases hle : (C j).1 ≤ W.1
          · have hd : decide ((C j).1 ≤ W.1) = true := decide_eq_true hle
            have R : Hid (RwRel y b g m hi lo P Q C w (.int .i64 ((j : Int) - 1)) ((wy.setCell ⟨g, j * 2, none⟩ (.int .i64 W.1)).setCell ⟨g, j * 2 + 1, none⟩ (.int .i64 W.2))) := by
              refine HR.out _ ?_
              rw [hxj.out, ← HW.out]
              exact hM.g hPg hQg HJ.out HW.out hle
            clear hM hle HR
            go_wp2_with fail
            go_roundw
            case rel => exact R.out
            case measure => simp [intOf]; omega
          · have hd : decide ((C j).1 ≤ W.1) = false := decide_eq_false hle
            have R : Hid (RwRel y b g m hi lo P Q C w (.int .i64 ((j : Int) - 1)) wy) := by
              refine HR.out _ ?_
              rw [hxj.out, ← HW.out]
              exact hM.keep HJ.out HW.out hle
            clear hM hle HR
            go_wp2_with fail
            go_roundw
            case rel => exact R.out
            case measure => simp [intOf]; omega
        · have hz : (y == x) = false := by simpa using heq
          have HV : Hid (wth x b C hi (t + 1) = wth x b C hi t) := by show _ = _; rw [wth, e2.out, if_neg (by rw [HY.out]; intro e; exact heq (Option.some.inj e))]
          rw [← HV.out] at hM
          obtain ⟨W, hW⟩ : ∃ W, W = wth x b C hi (t + 1) := ⟨_, rfl⟩
          rw [← hW] at hM
          have HW := Lib.hid hW
          clear hW HV heq
          go_upto_region 6 with (fail)
          clear hc
          generalize wr = wx at hM ⊢
          obtain ⟨p1, p2, p3, p4⟩ := hM.1.cells
          obtain ⟨q1, q2, q3, q4⟩ := hM.2.1.cells
          obtain ⟨r1, r2⟩ := hM.2.2.1.one (j := j) (by omega)
          rw [hcj.out] at r1 r2
          have hM2 := Lib.hid (hM.q hPQ hQg hQw (C j).1 (C j).2)
          clear hM
          go_upto_region 7 with (fail)
          generalize (wx.setCell ⟨Q, 0, none⟩ (.int .i64 (C j).1)).setCell ⟨Q, 1, none⟩ (.int .i64 (C j).2) = wy at hM2 ⊢
          clear p1 p2 p3 p4 q1 q2 q3 q4 r1 r2
          have hM := hM2.out
          clear hM2
          obtain ⟨p1, p2, p3, p4⟩ := hM.1.cells
          obtain ⟨q1, q2, q3, q4⟩ := hM.2.1.cells
          obtain ⟨r1, r2⟩ := hM.2.2.1.one (j := j) (by omega)
          have r3 := World.rowIs.frozen hM.2.2.1 (j * 2)
          have r4 := World.rowIs.frozen hM.2.2.1 (j * 2 + 1)
          by_cases hle : (C j).1 ≤ W.1
          · have hd : decide ((C j).1 ≤ W.1) = true := decide_eq_true hle
            have R : Hid (RwRel x b g m hi lo P Q C w (.int .i64 ((j : Int) - 1)) ((wy.setCell ⟨g, j * 2, none⟩ (.int .i64 W.1)).setCell ⟨g, j * 2 + 1, none⟩ (.int .i64 W.2))) := by
              refine HR.out _ ?_
              rw [hxj.out, ← HW.out]
              exact hM.g hPg hQg HJ.out HW.out hle
            clear hM hle HR
            go_wp2_with fail
            go_roundw
            case rel => exact R.out
            case measure => simp [intOf]; omega
          · have hd : decide ((C j).1 ≤ W.1) = false := decide_eq_false hle
            have R : Hid (RwRel x b g m hi lo P Q C w (.int .i64 ((j : Int) - 1)) wy) := by
              refine HR.out _ ?_
              rw [hxj.out, ← HW.out]
              exact hM.keep HJ.out HW.out hle
            clear hM hle HR
            go_wp2_with fail
            go_roundw
            case rel => exact R.out
            case measure => simp [intOf]; omega
      · obtain rfl : t = hi - lo := by omega
        have HF := Lib.hid hM.2.2.1
        have HG := Lib.hid hM.2.2.2
        have hd : decide ((lo : Int) ≤ (hi : Int) - 1 - ((hi - lo : Nat) : Int)) = false := by simp; omega
        clear hM
        go_wp2_with fail
        go_end0
        exact ⟨⟨_, rfl⟩, HF.out, HG.out⟩

end Go.Proofs.Ytejpbjglfjhjkaa
