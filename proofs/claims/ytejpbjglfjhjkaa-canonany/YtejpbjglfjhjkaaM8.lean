/-
  Words and contracts that the proof leans on.
-/
import Derived.Test.YtejpbjglfjhjkaaM5
import Derived.Deep.DeepCutAuto
import Derived.Test.YtejpbjglfjhjkaaM7
import Derived.Test.YtejpbjglfjhjkaaM4
import Derived.BigQuiet
namespace Go.Proofs.Ytejpbjglfjhjkaa
open Go.RowKit

/-- The head of a round that appends pairs: k of them are f of l's. -/
def AppRel (f : Pr → Pr) (l : List Pr) (w : World) (v i : Value) (wr : World) : Prop :=
  ∃ k : Nat, k ≤ l.length ∧ i = .int .i64 (k : Int) ∧ wr.ownsRow w.heap.size 28 2 v k (pv ((l.take k).map f)) ∧ Below w.heap.size w wr
theorem app_step {f : Pr → Pr} {l : List Pr} {w wr : World} {k : Nat} {p : Pr} {v : Value} (hk : k < l.length) (hp : l[k]? = some p) {x y : Int} (hx : x = (f p).1) (hy : y = (f p).2) (h : wr.ownsRow w.heap.size 28 2 v (k + 1) (pv ((l.take k).map f) ++ [.int .i64 x, .int .i64 y])) (hb : Below w.heap.size w wr) :
    AppRel f l w v (.int .i64 (k + 1 : Nat)) wr := by
  subst hx
  subst hy
  obtain ⟨hk', e'⟩ := List.getElem?_eq_some_iff.1 hp
  refine ⟨k + 1, by omega, rfl, ?_, hb⟩
  rw [List.take_succ_eq_append_getElem hk, e', List.map_append, pv_append]
  exact h
theorem app_done {f : Pr → Pr} {l : List Pr} {w wr : World} {k : Nat} {v : Value} (hk : ¬ k < l.length) (hk' : k ≤ l.length) (h : wr.ownsRow w.heap.size 28 2 v k (pv ((l.take k).map f))) (hb : Below w.heap.size w wr) : MadeP (l.map f) w (.returned v) wr := by
  have e : k = l.length := by omega
  subst e
  rw [List.take_length] at h
  exact ⟨_, rfl, by simpa using h, hb⟩

set_option maxRecDepth 100000 in
set_option maxHeartbeats 1600000 in
theorem refTurn (A : Option Addr) (N c : Nat) (l : List Pr) (w : World) (hN : l.length = N) (hb : N ≤ 1048576) (hr : Row w A (pv l)) :
    Calls Try.prog 20 #[.slice A N c] w (MadeP (turnP l) w) := by
  subst hN
  obtain ⟨i0, hi, hz0, hz1, hz2⟩ := info_parts Try.infoPair
  go_enter Try.func20, Try.ntmps20
  go_wp2_with fail
  go_loopw [3, 4] (fun v i wr => AppRel (fun p => (p.2, p.1)) l w v i wr) (fun _ i _ => l.length - (intOf i).toNat)
  case atStart => exact ⟨0, Nat.zero_le _, rfl, World.ownsRow_nil _ _ _ _, Below.refl _ _⟩
  case round =>
    obtain ⟨k, hk, rfl, hwn, hbr⟩ := hrel
    have hsz := hbr.size
    by_cases hlt : k < l.length
    · obtain ⟨g, o, rfl, hc, hd⟩ := (hr.below hbr).pair hlt
      have HX : Hid (l[k]? = some l[k]) := List.getElem?_eq_getElem hlt
      generalize l[k] = z at *
      clear hr
      obtain ⟨z1, z2⟩ := z
      simp only at hc hd
      go_wp2_with fail
      go_region_law ((refine step_own rfl (.tmp 11) (.tmp 23) 22 rfl w.heap.size 28 i0 (.agg #[.int .i64 0, .int .i64 0]) 2 16 Try.underlying22 hi hz0 hz1 hz2 rfl (by decide) _ k _ rfl ((hwn.alloc _).drew) ⟨wr.heap.size, 0, none⟩ 1 1 [.int .i64 z2, .int .i64 z1] rfl rfl (pair_new wr _ _ _) (one_pair _ _) (by unfold maxLen; omega) (by omega) (Nat.le_trans hsz (by simp)) ?_; intro v' w3 hown' hg'))
      all_goals (
        have R : AppRel (fun p => (p.2, p.1)) l w v' (.int .i64 (k + 1 : Nat)) w3 := app_step hlt HX.out rfl rfl hown' ((below_drewN (hbr.alloc hsz _) 1).grown hg' (Nat.le_trans hsz (by simp)) (fun x hx => (hwn.lt x hx).1))
        clear hown' hg' hwn hbr
        go_simp
        go_wp2_with fail
        go_roundw
        case rel => exact R
        case measure => simp [intOf]; omega)
    · have HF := Lib.hid (app_done hlt hk hwn hbr)
      clear hwn hbr
      go_wp2_with fail
      go_ret
      exact HF.out

end Go.Proofs.Ytejpbjglfjhjkaa

namespace Go.Proofs.Ytejpbjglfjhjkaa
open Go.RowKit

/-- A list and a number, told together. -/
def MadeE (l : List Pr) (r : Int) (w : World) (e : Ending) (w' : World) : Prop := ∃ v, e = .returned (.tuple #[v, .int .i64 r]) ∧ w'.ownsRow w.heap.size 28 2 v l.length (pv l) ∧ Below w.heap.size w w'
theorem madeE_none {w w' : World} (r : Int) (h : Below w.heap.size w w') : MadeE [] r w (.returned (.tuple #[.slice none 0 0, .int .i64 r])) w' := ⟨_, rfl, World.ownsRow_nil _ _ _ _, h⟩
def lftE (a b : List Int) (l : List Pr) : List Pr × Int := if goodB a b l = true then (lft a b 0 l, 0) else ([], 1)
def topE (a b : List Int) (l : List Pr) : List Pr × Int := if goodB a b l = true then (topL a b l, 0) else ([], 1)
theorem top_lft (a b : List Int) (l : List Pr) : topE a b l = (turnP (lftE b a (turnP l)).1, (lftE b a (turnP l)).2) := by
  unfold topE lftE
  rw [good_turn]
  split <;> rfl
theorem lftE_yes {a b : List Int} {l : List Pr} (h : goodB a b l = true) : lftE a b l = (lft a b 0 l, 0) := by unfold lftE; rw [if_pos h]
theorem lftE_no {a b : List Int} {l : List Pr} (h : ¬ goodB a b l = true) : lftE a b l = ([], 1) := by unfold lftE; rw [if_neg h]
/-- k pairs are pushed; s is the first place that is free. -/
def LfAt (a b : List Int) (l L : List Pr) (k s : Nat) : Prop := L.drop k = lft a b s (l.drop k) ∧ ∃ i j, Ga a b i j (l.drop k) ∧ s ≤ j
theorem lf_start {a b : List Int} {l : List Pr} (h : goodB a b l = true) : LfAt a b l (lft a b 0 l) 0 0 := ⟨rfl, 0, 0, good_iff.1 h, Nat.le_refl _⟩
/-- The pair that is pushed next. -/
theorem lf_step {a b : List Int} {l L : List Pr} {k s : Nat} (h : LfAt a b l L k s) (hk : k < l.length) :
    ∃ (x y J : Nat) (u : Int), l[k] = ((x : Int), (y : Int)) ∧ a[x]? = some u ∧ b[y]? = some u ∧ s ≤ J ∧ J ≤ y ∧ b[J]? = some u ∧ (∀ t, s ≤ t → t < J → b[t]? ≠ some u) ∧ L[k]? = some ((x : Int), (J : Int)) ∧ LfAt a b l L (k + 1) (J + 1) := by
  obtain ⟨h1, i, j, hG, hs⟩ := h
  rw [List.drop_eq_getElem_cons hk] at h1 hG
  obtain ⟨x, y, u, e, g1, g2, hx, hy, hl⟩ := hG
  rw [e] at h1
  obtain ⟨k1, k2, k3, k4⟩ := nsP_is (a := a) (b := b) (s := s) (x := x) (y := y) (by omega) hx hy
  have h1' : L.drop k = ((x : Int), (nsP a b s ((x : Int), (y : Int)) : Int)) :: lft a b (nsP a b s ((x : Int), (y : Int)) + 1) (l.drop (k + 1)) := h1
  have hL : L[k]? = (L.drop k)[0]? := by rw [List.getElem?_drop]; simp
  refine ⟨x, y, nsP a b s ((x : Int), (y : Int)), u, e, hx, hy, k1, k2, k3, k4, by rw [hL, h1']; rfl, ?_, x + 1, y + 1, hl, by omega⟩
  have : L.drop (k + 1) = (L.drop k).drop 1 := by rw [List.drop_drop]
  rw [this, h1']
  rfl

end Go.Proofs.Ytejpbjglfjhjkaa

namespace Go.Proofs.Ytejpbjglfjhjkaa
open Go.RowKit

/-- The head of a round. -/
def PlRel (a b : List Int) (l L : List Pr) (w : World) (js ks : Value) (wr : World) : Prop :=
  ∃ k s : Nat, js = .int .i64 (s : Int) ∧ s ≤ b.length ∧ Hid (LfAt a b l L k s) ∧ ks = .int .i64 (k : Int) ∧ FillRel (fun p => p) L w ks wr
/-- The head of the search's round. -/
def PnRel (s J : Nat) (wb : World) (js : Value) (wx : World) : Prop := ∃ j q : Nat, js = .int .i64 (j : Int) ∧ s ≤ j ∧ j ≤ J ∧ wx = wb.drewN q

set_option maxRecDepth 100000 in
set_option maxHeartbeats 1600000 in
theorem pleft_any (A B C : Option Addr) (n m N c d e : Nat) (a b : List Int) (l : List Pr) (w : World) (hn : a.length = n) (hm : b.length = m) (hN : l.length = N) (_hb : n ≤ 1048576) (hb' : m ≤ 1048576) (hbN : N ≤ 1048576) (h1 : Row w A (iv a)) (h2 : Row w B (iv b)) (h3 : Row w C (pv l)) :
    Calls Try.prog 9 #[.slice A n c, .slice B m d, .slice C N e] w (MadeE (lftE a b l).1 (lftE a b l).2 w) := by
  obtain ⟨i0, hi, hz0, hz1, hz2⟩ := info_parts Try.infoPair
  have PG := Lib.hid (pgood A B C n m N c d e a b l w hn hm hN (by omega) h1 h2 h3)
  by_cases hg : goodB a b l = true
  · rw [lftE_yes hg]
    rw [hg] at PG
    have HL0 := Lib.hid (lf_start hg)
    have HLl : (lft a b 0 l).length = N := by rw [lft_length, hN]
    clear hg
    show Calls _ _ _ _ (MadeE (lft a b 0 l) 0 w)
    generalize lft a b 0 l = L at *
    subst HLl
    have HNl := Lib.hid hN
    have HN := Lib.hid hn
    have HM := Lib.hid hm
    clear hn hm hN
    go_enter Try.func9, Try.ntmps9
    go_wp2_with fail
    refine PG.out.mono ?_
    rintro x w1 ⟨rfl, hB⟩
    clear PG
    replace h1 := h1.below hB
    replace h2 := h2.below hB
    replace h3 := h3.below hB
    go_wp2_with (at_make; refine wpList_make_full _ rfl _ _ 22 rfl w1.heap.size 28 i0 (.agg #[.int .i64 0, .int .i64 0]) 2 Try.underlying22 hi hz0 hz1 .i64 .i64 _ _ L.length rfl rfl rfl rfl (by rw [hz2]; omega) (by unfold maxLen; omega) (Nat.le_refl _) ?_)
    intro w2 hown hgr
    have HS := Lib.hid (fill_start (f := fun p => p) hown ((Below.refl _ _).grown hgr (Nat.le_refl _) (fun k hk => by cases hk)))
    clear hown hgr
    go_wp2_with fail
    go_loopw [9, 22] (fun js ks wr => PlRel a b l L w1 js ks wr) (fun _ k _ => L.length - (RowKit.intOf k).toNat)
    case atStart => exact ⟨0, 0, rfl, Nat.zero_le _, HL0, rfl, HS.out⟩
    case round =>
      clear HS HL0
      obtain ⟨k0, s, rfl, hs, hLf, rfl, k, hk, hkk, hwn, hbr⟩ := hrel
      obtain rfl : k0 = k := by have := Value.int.inj hkk; omega
      by_cases hlt : k0 < L.length
      · obtain ⟨x, y, J, u, hz, hx, hy, hsJ, hJy, hJb, hno, hLk, hNx⟩ := lf_step hLf.out (by rw [HNl.out]; exact hlt)
        have x1 : x < n := by rw [← HN.out]; exact (List.getElem?_eq_some_iff.1 hx).1
        have J1 : J < m := by rw [← HM.out]; exact (List.getElem?_eq_some_iff.1 hJb).1
        have r1 := h1.below hbr
        have r2 := h2.below hbr
        obtain ⟨g, o, rfl, hc, hd⟩ := (h3.below hbr).pair (k := k0) (by rw [HNl.out]; exact hlt)
        rw [hz] at hc hd
        simp only at hc hd
        have hsz := hbr.size
        have BB : Below wr.heap.size wr (wr.alloc (.cells #[.int .i64 (x : Int), .int .i64 (y : Int)] 28)) := (Below.refl _ _).alloc (Nat.le_refl _) _
        have hne : w1.heap.size < wr.heap.size := by have := hwn.lt w1.heap.size rfl; omega
        obtain ⟨u1, u2, _, _, _⟩ := cell_of (heap_new wr (.cells #[.int .i64 (x : Int), .int .i64 (y : Int)] 28))
        have RN := Lib.hid (fun q => fill_step (f := fun p => p) (k := k0) (w := w1) (wr := (wr.alloc (.cells #[.int .i64 (x : Int), .int .i64 (y : Int)] 28)).drewN q) hlt hLk (own_belowS hwn (below_drewN BB q) (Nat.le_refl _)) (hbr.trans ((below_drewN BB q).mono hsz)) rfl rfl)
        have FC := Lib.hid (fun q => fill_cells (f := fun p => p) (k := k0) (w := w1) (wr := (wr.alloc (.cells #[.int .i64 (x : Int), .int .i64 (y : Int)] 28)).drewN q) hlt (own_belowS hwn (below_drewN BB q) (Nat.le_refl _)))
        have HNx := Lib.hid hNx
        have HX := Lib.hid hx
        have HJ := Lib.hid hJb
        have HNo := Lib.hid hno
        replace r1 := r1.below BB
        replace r2 := r2.below BB
        clear hx hy hJb hno hLk hNx hz hwn hbr BB h1 h2 h3 hLf
        go_wp2_with fail
        generalize hP : wr.heap.size = P at *
        generalize wr.alloc (.cells #[.int .i64 (x : Int), .int .i64 (y : Int)] 28) = wb at *
        clear hc hd hP
        go_loopw [9] (fun js wx => PnRel s J wb js wx) (fun js _ => J - (RowKit.intOf js).toNat)
        case atStart => exact ⟨s, 0, rfl, Nat.le_refl _, hsJ, rfl⟩
        case round =>
          obtain ⟨j, q, rfl, hsj, hjJ, rfl⟩ := hrel
          obtain ⟨g1, o1, rfl, hc1⟩ := r1.int (k := x) (by rw [HN.out]; exact x1)
          obtain ⟨g2, o2, rfl, hc2⟩ := r2.int (k := j) (by rw [HM.out]; omega)
          have e1 : a[x]'(by rw [HN.out]; exact x1) = u := (List.getElem?_eq_some_iff.1 HX.out).2
          rw [e1] at hc1
          have jm : j < m := by omega
          by_cases hj : j < J
          · have hz : (b[j]'(by rw [HM.out]; omega) != u) = true := by
              rw [bne_iff_ne]
              intro e
              exact HNo.out j hsj hj (List.getElem?_eq_some_iff.2 ⟨_, e⟩)
            generalize b[j]'(by rw [HM.out]; omega) = v at *
            clear e1 r1 r2 RN FC HNo HX HJ HNx
            go_wp2_with fail
            go_quiet (fail)
            go_wp2_with fail
            go_roundw
            case rel => exact ⟨j + 1, _, by go_num, by omega, by omega, rfl⟩
            case measure => simp [RowKit.intOf]; omega
          · obtain rfl : j = J := by omega
            have e2 : b[j]'(by rw [HM.out]; omega) = u := (List.getElem?_eq_some_iff.1 HJ.out).2
            rw [e2] at hc2
            clear e1 e2 r1 r2 HNo HX HJ
            go_wp2_with fail
            go_quiet (fail)
            obtain ⟨f1, f2, f3⟩ := FC.out (q + nq)
            replace f1 : wb.cell? ⟨w1.heap.size, k0 * 2, none⟩ = some (.int .i64 0) := f1
            replace f2 : wb.cell? ⟨w1.heap.size, k0 * 2 + 1, none⟩ = some (.int .i64 0) := f2
            have f4 : wb.frozen? ⟨w1.heap.size, k0 * 2, none⟩ = false := f3 (k0 * 2)
            have f5 : wb.frozen? ⟨w1.heap.size, k0 * 2 + 1, none⟩ = false := f3 (k0 * 2 + 1)
            have R := RN.out (q + nq)
            clear RN FC f3
            go_wp2_with fail
            go_roundw
            case rel => exact ⟨k0 + 1, j + 1, by go_num, by have := HM.out; omega, HNx, by go_num, R⟩
            case measure => simp [RowKit.intOf]; omega
      · have HF := Lib.hid (fill_done hlt hwn hbr)
        clear hwn hbr
        go_wp2_with fail
        go_ret2
        obtain ⟨v, e, ho, hb2⟩ := HF.out
        injection e with e
        rw [e]
        rw [List.map_id'] at ho
        exact ⟨_, rfl, own_lowerS ho hB.size, below_go hB hb2⟩
  · rw [lftE_no hg]
    rw [Bool.eq_false_iff.2 hg] at PG
    show Calls _ _ _ _ (MadeE [] 1 w)
    clear hn hm hN h1 h2 h3 hg
    go_enter Try.func9, Try.ntmps9
    go_wp2_with fail
    refine PG.out.mono ?_
    rintro x w1 ⟨rfl, hB⟩
    clear PG
    have R := Lib.hid (madeE_none 1 hB)
    clear hB
    go_wp2_with fail
    go_ret2
    exact R.out

end Go.Proofs.Ytejpbjglfjhjkaa

namespace Go.Proofs.Ytejpbjglfjhjkaa
open Go.RowKit

end Go.Proofs.Ytejpbjglfjhjkaa
