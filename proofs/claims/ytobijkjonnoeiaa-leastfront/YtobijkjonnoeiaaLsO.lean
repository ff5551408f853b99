/-
  Contracts of package least's Of, Is and First, and of slices.Equal at pairs.
-/
import Derived.Test.YtobijkjonnoeiaaLsE
import Derived.Test.YtobijkjonnoeiaaPrG
import Derived.Laws.ResultCell
namespace Go.Proofs.Ytobijkjonnoeiaa
open Go.RowKit

set_option maxRecDepth 100000 in
theorem lof_any (A B : Option Addr) (n m c d : Nat) (a b : List Int) (w : World) (hn : a.length = n) (hm : b.length = m) (hb : n ≤ 1048576) (hb' : m ≤ 1048576) (hc : n ≤ c) (hd : m ≤ d) (h1 : Row w A (iv a)) (h2 : Row w B (iv b)) :
    Calls Try.prog 9 #[.slice A n c, .slice B m d] w (MadeP (lst a b) w) := by
  have EX := Lib.hid (extend_any n A B n m c d 0 0 a b [] (.slice none 0 0) w w hn hm (Nat.le_refl _) (by simpa using hb) (by omega) (by omega) hc hd h1 h2 (Below.refl _ _) (World.ownsRow_nil _ _ _ _))
  clear hn hm h1 h2
  go_enter Try.func9, Try.ntmps9
  go_wp2_with fail
  refine EX.out.mono ?_
  rintro e w1 ⟨v, rfl, h3, h4, _⟩
  rw [sh_zero, List.nil_append] at h3
  have HR : Hid (MadeP (lst a b) w (.returned v) w1) := ⟨v, rfl, h3, grown_below h4 (Nat.le_refl _) (fun k e => by cases e)⟩
  clear h3 h4
  go_wp2_with fail
  go_ret
  exact HR.out

/-- slices.Equal. -/
def EqRel (ls ms : List Pr) (w : World) (v : Value) (wr : World) : Prop := ∃ k q : Nat, k ≤ ls.length ∧ v = .int .i64 (k : Int) ∧ wr = w.drewN q ∧ Hid (ls.take k = ms.take k)
set_option maxRecDepth 100000 in
set_option maxHeartbeats 1600000 in
theorem equal_len (A A' : Option Addr) (n n' c c' : Nat) (ls ms : List Pr) (w : World) (hn : ls.length = n) (hn' : ms.length = n') (hb : n ≤ 9223372036854775807) (hr : Row w A (pv ls)) (hr' : Row w A' (pv ms)) (he : ls.length = ms.length) :
    Calls Try.prog 22 #[.slice A n c, .slice A' n' c'] w fun e w' => e = .returned (.bool (decide (ls = ms))) ∧ ∃ q, w' = w.drewN q := by
  subst hn
  subst hn'
  have HE := Lib.hid he
  rw [← he]
  clear he
  go_enter Try.func22, Try.ntmps22
  go_wp2_with fail
  go_loopw [13] (fun i wr => EqRel ls ms w i wr) (fun i _ => ls.length - (intOf i).toNat)
  case atStart => exact ⟨0, 0, Nat.zero_le _, rfl, rfl, by show _ = _; simp⟩
  case round =>
    obtain ⟨k, q, hk, rfl, rfl, hkk⟩ := hrel
    by_cases hlt : k < ls.length
    · have hlt' : k < ms.length := by rw [← HE.out]; exact hlt
      obtain ⟨g, o, rfl, hc, hd⟩ := hr.pair hlt
      obtain ⟨g', o', rfl, hc', hd'⟩ := hr'.pair hlt'
      have HS := Lib.hid (List.take_succ_eq_append_getElem hlt)
      have HS' := Lib.hid (List.take_succ_eq_append_getElem hlt')
      have HX : Hid (ls[k]? = some ls[k]) := List.getElem?_eq_getElem hlt
      have HX' : Hid (ms[k]? = some ms[k]) := List.getElem?_eq_getElem hlt'
      generalize ls[k] = x at *
      generalize ms[k] = y at *
      clear hlt' hr hr'
      obtain ⟨x1, x2⟩ := x
      obtain ⟨y1, y2⟩ := y
      simp only at hc hd hc' hd'
      by_cases heq : x1 = y1 ∧ x2 = y2
      · obtain ⟨rfl, rfl⟩ := heq
        go_wp2_with fail
        go_quiet (fail)
        go_wp2_with fail
        go_roundw
        case rel => exact ⟨k + 1, _, by omega, by go_num, rfl, by show _ = _; rw [HS.out, HS'.out, hkk.out]⟩
        case measure => simp [intOf]; omega
      · have hfin : decide (ls = ms) = false := by
          rw [decide_eq_false_iff_not]
          intro e
          apply heq
          have e1 := HX.out
          rw [e, HX'.out] at e1
          injection e1 with e1
          injection e1 with e1 e2
          exact ⟨e1.symm, e2.symm⟩
        have HF := Lib.hid hfin
        clear hfin
        by_cases h1 : x1 = y1
        · subst h1
          have h2 : ¬ x2 = y2 := fun e => heq ⟨rfl, e⟩
          have hz : (x2 == y2) = false := by simpa using h2
          clear heq
          go_wp2_with fail
          go_quiet (fail)
          go_wp2_with fail
          go_ret
          exact ⟨by rw [HF.out]; rfl, q + nq, by rw [World.drewN_drewN]⟩
        · have hz : (x1 == y1) = false := by simpa using h1
          clear heq
          go_wp2_with fail
          go_quiet (fail)
          go_wp2_with fail
          go_ret
          exact ⟨by rw [HF.out]; rfl, q + nq, by rw [World.drewN_drewN]⟩
    · have hfin : decide (ls = ms) = true := by
        have e := hkk.out
        rw [List.take_of_length_le (by omega), List.take_of_length_le (by rw [← HE.out]; omega)] at e
        simpa using e
      have HF := Lib.hid hfin
      clear hfin
      go_wp2_with fail
      go_ret
      exact ⟨by rw [HF.out]; rfl, _, rfl⟩
theorem equal_any (A A' : Option Addr) (n n' c c' : Nat) (ls ms : List Pr) (w : World) (hn : ls.length = n) (hn' : ms.length = n') (hb : n ≤ 9223372036854775807) (hr : Row w A (pv ls)) (hr' : Row w A' (pv ms)) :
    Calls Try.prog 22 #[.slice A n c, .slice A' n' c'] w fun e w' => e = .returned (.bool (decide (ls = ms))) ∧ ∃ q, w' = w.drewN q := by
  by_cases he : ls.length = ms.length
  · exact equal_len A A' n n' c c' ls ms w hn hn' hb hr hr' he
  · subst hn
    subst hn'
    have hfin : decide (ls = ms) = false := by
      rw [decide_eq_false_iff_not]
      intro e
      exact he (congrArg List.length e)
    rw [hfin]
    have hz : ((ls.length : Int) != (ms.length : Int)) = true := by simp; omega
    clear hfin he
    go_enter Try.func22, Try.ntmps22
    go_wp2_with fail
    go_ret
    exact ⟨rfl, 0, rfl⟩

theorem is_bool (a b : List Int) (l : List Pr) : (goodB a b l && decide (l = lst a b)) = decide (l = lst a b) := by
  by_cases e : l = lst a b
  · subst e
    rw [good_iff.2 (lst_lea a b).1]
    simp
  · rw [decide_eq_false e, Bool.and_false]

set_option maxRecDepth 100000 in
set_option maxHeartbeats 1600000 in
theorem lis_any (A B C : Option Addr) (n m N c d e : Nat) (a b : List Int) (l : List Pr) (w : World) (hn : a.length = n) (hm : b.length = m) (hN : l.length = N) (hb : n ≤ 1048576) (hb' : m ≤ 1048576) (hbN : N ≤ 2147483648) (hc : n ≤ c) (hd : m ≤ d) (h1 : Row w A (iv a)) (h2 : Row w B (iv b)) (h3 : Row w C (pv l)) :
    Calls Try.prog 12 #[.slice A n c, .slice B m d, .slice C N e] w fun e w' => e = .returned (.bool (decide (l = lst a b))) ∧ Below w.heap.size w w' := by
  rw [← is_bool]
  have PG := Lib.hid (pgood A B C n m N c d e a b l w hn hm hN hbN h1 h2 h3)
  have OF := Lib.hid (fun w1 (hB : Below w.heap.size w w1) => lof_any A B n m c d a b w1 hn hm hb hb' hc hd (h1.below hB) (h2.below hB))
  have EQ := Lib.hid (fun w2 A' n' c' (hB : Below w.heap.size w w2) (hl : (lst a b).length = n') hr => equal_any C A' N n' e c' l (lst a b) w2 hN hl (by omega) (h3.below hB) hr)
  clear hn hm hN h1 h2 h3
  generalize goodB a b l = g at *
  go_enter Try.func12, Try.ntmps12
  go_wp2_with fail
  refine PG.out.mono ?_
  rintro e1 w1 ⟨rfl, hB1⟩
  cases g with
  | false =>
    clear PG OF EQ
    go_wp2_with fail
    go_ret
    exact ⟨rfl, hB1⟩
  | true =>
    have OF1 := Lib.hid (OF.out w1 hB1)
    clear PG OF
    go_wp2_with fail
    refine OF1.out.mono ?_
    rintro e2 w2 ⟨v, rfl, hv, hB2⟩
    obtain ⟨A', c', rfl, _, _, hr, _⟩ := own_sliceS hv
    have hB3 := below_go hB1 hB2
    have EQ1 := Lib.hid (EQ.out w2 A' _ c' hB3 rfl hr)
    clear EQ OF1 hv hr hB1 hB2
    go_wp2_with fail
    refine EQ1.out.mono ?_
    rintro e3 w3 ⟨rfl, q, rfl⟩
    clear EQ1
    go_wp2_with fail
    go_ret
    exact ⟨by simp, below_drewN hB3 q⟩

theorem BxP.block {w : World} {P : Nat} {x y : Int} (h : BxP w P (x, y)) : w.heap[P]? = some (.cells #[.int .i64 x, .int .i64 y] 26 (0, 0)) := by
  obtain ⟨c, hc, h1, h2⟩ := h
  rw [hc]
  congr 2
  apply Array.ext_getElem?
  intro i
  by_cases hi : i < 2
  · rw [h2 i hi]
    have : i = 0 ∨ i = 1 := by omega
    rcases this with rfl | rfl <;> rfl
  · rw [Array.getElem?_eq_none (by omega), Array.getElem?_eq_none (by simp; omega)]
/-- The first pair, or (0, 0). -/
def hdP (l : List Pr) : Pr := l.headD (0, 0)
theorem first_ret {w : World} {tmps : Array Value} {P : Nat} {x y : Int} {r : Value} (hp : tmps.getD 4 undef = .pointer (some ⟨P, 0, none⟩)) (hr : tmps.getD 5 undef = r) (h : BxP w P (x, y)) : (results Try.f10 tmps).run Try.prog w = .ok (.tuple #[.agg #[.int .i64 x, .int .i64 y], r]) w := by
  rw [results_cell_tmp rfl, hp, hr]
  have := run_loadVar_row (P := Try.prog) w P _ 26 _ _ _ h.block Try.underlying26 rfl Try.sizePair
  simp only [asAddr, Sem.run_pure, Result.andThen_ok, this]

set_option maxRecDepth 100000 in
set_option maxHeartbeats 1600000 in
theorem lfirst_any (A B : Option Addr) (n m c d : Nat) (a b : List Int) (w : World) (hn : a.length = n) (hm : b.length = m) (hb : n ≤ 1048576) (hb' : m ≤ 1048576) (hc : n ≤ c) (hd : m ≤ d) (h1 : Row w A (iv a)) (h2 : Row w B (iv b)) :
    Calls Try.prog 10 #[.slice A n c, .slice B m d] w fun e w' => e = .returned (.tuple #[.agg #[.int .i64 (hdP (lst a b)).1, .int .i64 (hdP (lst a b)).2], .bool (decide (0 < (lst a b).length))]) ∧ Below w.heap.size w w' := by
  have OF := Lib.hid (lof_any A B n m c d a b (w.alloc (.cells #[.int .i64 0, .int .i64 0] 26)) hn hm hb hb' hc hd (h1.alloc _) (h2.alloc _))
  have bx := bxP_new w 0 0
  have hB0 : Below w.heap.size w (w.alloc (.cells #[.int .i64 0, .int .i64 0] 26)) := (Below.refl _ _).alloc (Nat.le_refl _) _
  have hs0 : (w.alloc (.cells #[.int .i64 0, .int .i64 0] 26)).heap.size = w.heap.size + 1 := by simp
  clear hn hm h1 h2
  generalize lst a b = l at *
  go_enter Try.func10, Try.ntmps10
  go_wp2_with fail
  generalize w.alloc (.cells #[.int .i64 0, .int .i64 0] 26) = wa at *
  refine OF.out.mono ?_
  rintro e1 w1 ⟨v, rfl, hv, hB1⟩
  obtain ⟨A', c', rfl, _, _, hr, _⟩ := own_sliceS hv
  have bx1 : BxP w1 w.heap.size (0, 0) := bx.grown (below_grown hB1 none) (by simp)
  have hB2 : Below w.heap.size w w1 := hB0.trans (hB1.mono hB0.size)
  have HS : Hid (∀ u1 u2 : Int, BxP ((w1.setCell ⟨w.heap.size, 0, none⟩ (.int .i64 u1)).setCell ⟨w.heap.size, 1, none⟩ (.int .i64 u2)) w.heap.size (u1, u2) ∧ Below w.heap.size w ((w1.setCell ⟨w.heap.size, 0, none⟩ (.int .i64 u1)).setCell ⟨w.heap.size, 1, none⟩ (.int .i64 u2))) := fun u1 u2 => ⟨bx1.set u1 u2, (hB2.setCell (Nat.le_refl _) _).setCell (Nat.le_refl _) _⟩
  obtain ⟨p1, p2, p3, p4⟩ := bx1.cells
  simp only at p1 p2
  clear OF bx hB0 hs0 hB1 bx1 hB2 hv
  cases l with
  | nil =>
    clear hr
    go_wp2_with fail
    exact bodyPost_ret (first_ret rfl rfl (HS.out 0 0).1) rfl ⟨rfl, (HS.out 0 0).2⟩
  | cons z l =>
    obtain ⟨g, o, rfl, k1, k2⟩ := hr.pair (k := 0) (by simp)
    simp only [List.getElem_cons_zero, Nat.zero_mul, Nat.add_zero] at k1 k2
    obtain ⟨z1, z2⟩ := z
    simp only at k1 k2
    have t1 : (((((z1, z2) :: l).length : Nat) : Int) == 0) = false := by simp; omega
    have hl : 0 < ((z1, z2) :: l).length := by simp
    generalize ((z1, z2) :: l).length = N at *
    have t2 : (N == 0) = false := by simp; omega
    clear hr
    go_wp2_with fail
    exact bodyPost_ret (first_ret rfl rfl (HS.out z1 z2).1) rfl ⟨by rw [decide_eq_true (show 0 < ((z1, z2) :: l).length by simp)]; rfl, (HS.out z1 z2).2⟩

end Go.Proofs.Ytobijkjonnoeiaa
