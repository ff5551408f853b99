/-
  names.Two; the reference's Two; few.
-/
import Derived.Test.YtjfiokcgmmmboaaNm8
namespace Go.Proofs.Ytjfiokcgmmmboaa
open Go.RowKit
open Go.Lib (compareBytes)

theorem cell_two0 (w : World) (u v : Value) (e : TypeId) : (w.alloc (.cells #[u, v] e)).cell? ⟨w.heap.size, 0, none⟩ = some u := by
  obtain ⟨g, o, h, hc⟩ := Row.new w [u, v] e (0, 0) (by simp)
  injection h with h
  injection h with h1 h2
  subst h1; subst h2
  exact hc 0 u rfl
theorem cell_two1 (w : World) (u v : Value) (e : TypeId) : (w.alloc (.cells #[u, v] e)).cell? ⟨w.heap.size, 1, none⟩ = some v := by
  obtain ⟨g, o, h, hc⟩ := Row.new w [u, v] e (0, 0) (by simp)
  injection h with h
  injection h with h1 h2
  subst h1; subst h2
  exact hc 1 v rfl

/-- What Two leaves. -/
def TwoMade (la lb2 : List Bs) (w : World) (e : Ending) (w' : World) : Prop :=
  ∃ x y, e = .returned (.tuple #[x, y, .int .i64 ((sortU (la ++ lb2)).length : Int)]) ∧ w'.ownsRow w.heap.size 3 1 x la.length (iv (idsOf (sortU (la ++ lb2)) la)) ∧ w'.ownsRow w.heap.size 3 1 y lb2.length (iv (idsOf (sortU (la ++ lb2)) lb2)) ∧ Below w.heap.size w w'

theorem idsU_all {ds ms : List Bs} (h : ∀ t ∈ ms, t ∈ ds) : idsU ds ms = idsOf ds ms := by simp [idsU, allIn_iff.2 h]
theorem in_left {la lb2 : List Bs} : ∀ t ∈ la, t ∈ sortU (la ++ lb2) := fun _ h => mem_sortU.2 (List.mem_append_left _ h)
theorem in_right {la lb2 : List Bs} : ∀ t ∈ lb2, t ∈ sortU (la ++ lb2) := fun _ h => mem_sortU.2 (List.mem_append_right _ h)

set_option maxHeartbeats 1600000 in
theorem nmTwo_any (A A' : Option Addr) (n c n' c' : Nat) (vs us : List Value) (la lb2 : List Bs) (w : World) (hn : la.length = n) (hn' : lb2.length = n') (hb : n ≤ 1000000) (hb' : n' ≤ 1000000)
    (hr : Row w A vs) (hbs : BSs w vs la) (hnil : A = none → c = 0) (hr' : Row w A' us) (hbs' : BSs w us lb2) (hnil' : A' = none → c' = 0) :
    Calls Try.prog 12 #[.slice A n c, .slice A' n' c'] w (TwoMade la lb2 w) := by
  have HN := Lib.hid hn
  have HN' := Lib.hid hn'
  have HV : Hid (vs.length = n) := hbs.1.trans hn
  have HU : Hid (us.length = n') := hbs'.1.trans hn'
  have hdl := sortU_length (la ++ lb2)
  rw [List.length_append, hn, hn'] at hdl
  have HI1 := Lib.hid (idsU_all (in_left (la := la) (lb2 := lb2)))
  have HI2 := Lib.hid (idsU_all (in_right (la := la) (lb2 := lb2)))
  have HR := Lib.hid (rises_sortU (la ++ lb2))
  clear hn hn'
  go_enter Try.func12, Try.ntmps12
  go_wp2_with fail
  refine (concat_any w.heap.size A A' n c n' c' vs us _ HV.out HU.out (by omega) (by omega) (by omega) (cell_two0 _ _ _ _) (cell_two1 _ _ _ _) (hr.alloc _) (hr'.alloc _) hnil hnil' hbs.one hbs'.one).mono ?_
  rintro e w2 ⟨v, rfl, hown2, hb2⟩
  have ha : Below w.heap.size w (w.alloc (.cells #[.slice A n c, .slice A' n' c'] 22)) := (Below.refl _ _).alloc (Nat.le_refl _) _
  have hbw2 : Below w.heap.size w w2 := ha.trans (hb2.mono ha.size)
  obtain ⟨V, cV, rfl, hV1, hV2, hV3, hV4⟩ := own_slice hown2
  have hcat : BSs w2 (vs ++ us) (la ++ lb2) := (hbs.below hbw2).append (hbs'.below hbw2)
  clear ha hb2 hown2
  go_wp2_with fail
  refine (distinct_any V (n + n') cV (vs ++ us) (la ++ lb2) _ (by rw [List.length_append, HN.out, HN'.out]) (by omega) hV3 hcat).mono ?_
  rintro e w3 ⟨d, xs, rfl, hown3, hbs3, hb3⟩
  generalize hds : sortU (la ++ lb2) = ds at *
  have HDS := Lib.hid hds
  clear hds
  have hbw3 : Below w.heap.size w w3 := hbw2.trans (hb3.mono hbw2.size)
  have hbx3 := hbs3.below hb3
  obtain ⟨D, cD, rfl, _, _, _, _⟩ := own_slice hown3
  clear hV1 hV2 hV3 hV4 hcat hb3 hbs3
  go_wp2_with fail
  refine (nmIds_any D A _ cD _ c _ xs vs ds la w3 rfl (by omega) HN.out (by omega) hown3 hbx3 (hr.below hbw3) (hbs.below hbw3) HR.out).mono ?_
  rintro e w4 ⟨x, rfl, hx4, hb4⟩
  rw [HI1.out, idsOf_length] at hx4
  have hbw4 : Below w.heap.size w w4 := hbw3.trans (hb4.mono hbw3.size)
  have hown4 := own_below hown3 hb4 (Nat.le_refl _)
  have hbx4 := hbx3.below hb4
  have hx4' := own_lower hx4 hbw3.size
  clear hx4 hown3 hbx3 hb4
  go_wp2_with fail
  refine (nmIds_any D A' _ cD _ c' _ xs us ds lb2 w4 rfl (by omega) HN'.out (by omega) hown4 hbx4 (hr'.below hbw4) (hbs'.below hbw4) HR.out).mono ?_
  rintro e w5 ⟨y, rfl, hy5, hb5⟩
  rw [HI2.out, idsOf_length] at hy5
  have R : TwoMade la lb2 w (.returned (.tuple #[x, y, .int .i64 (ds.length : Int)])) w5 := by
    refine ⟨x, y, by rw [HDS.out], ?_, ?_, hbw4.trans (hb5.mono hbw4.size)⟩
    · rw [HDS.out]; exact own_below hx4' hb5 (Nat.le_refl _)
    · rw [HDS.out]; exact own_lower hy5 hbw4.size
  clear hy5 hb5 hx4' hown4 hbx4
  go_wp2_with fail
  go_ret3
  exact R

set_option maxHeartbeats 1600000 in
theorem refTwo_any (A A' : Option Addr) (n c n' c' : Nat) (vs us : List Value) (la lb2 : List Bs) (w : World) (hn : la.length = n) (hn' : lb2.length = n') (hb : n ≤ 1000000) (hb' : n' ≤ 1000000) (hl : ∀ t ∈ la, t.length ≤ 2147483648) (hl' : ∀ t ∈ lb2, t.length ≤ 2147483648)
    (hr : Row w A vs) (hbs : BSs w vs la) (hnil : A = none → c = 0) (hr' : Row w A' us) (hbs' : BSs w us lb2) (hnil' : A' = none → c' = 0) :
    Calls Try.prog 20 #[.slice A n c, .slice A' n' c'] w (TwoMade la lb2 w) := by
  obtain ⟨i0, hi, hz0, hz1, hz2⟩ := info_parts Try.infoBs
  have HN := Lib.hid hn
  have HN' := Lib.hid hn'
  have HV : Hid (vs.length = n) := hbs.1.trans hn
  have HU : Hid (us.length = n') := hbs'.1.trans hn'
  have hdl := sortU_length (la ++ lb2)
  rw [List.length_append, hn, hn'] at hdl
  have HI1 := Lib.hid (idsU_all (in_left (la := la) (lb2 := lb2)))
  have HI2 := Lib.hid (idsU_all (in_right (la := la) (lb2 := lb2)))
  have HR := Lib.hid (rises_sortU (la ++ lb2))
  have HL : Hid (∀ t ∈ la ++ lb2, t.length ≤ 2147483648) := fun t ht => by
    rcases List.mem_append.1 ht with h | h
    · exact hl t h
    · exact hl' t h
  clear hn hn' hl hl'
  go_enter Try.func20, Try.ntmps20
  go_wp2_with (at_builtin; refine append_row rfl (.tmp 12) (.tmp 13) 22 rfl w.heap.size 24 i0 (.slice none 0 0) 24 Try.underlying22 hi hz0 hz1 hz2 rfl _ _ _ rfl (own_e0 w _ (Nat.le_refl _)) A n c vs rfl HV.out (hr.alloc _) hnil hbs.one (by unfold maxLen; omega) (by omega) (by simp) ?_)
  intro v1 w1 hown1 hg1
  have hb1 : Below w.heap.size w w1 := ((Below.refl _ w).alloc (Nat.le_refl _) _).grown hg1 (by simp) (fun x hx => by cases hx; exact Nat.le_refl _)
  have hs1 := hb1.size
  clear hg1
  go_wp2_with (at_builtin; refine append_row rfl (.tmp 14) (.tmp 15) 22 rfl w.heap.size 24 i0 (.slice none 0 0) 24 Try.underlying22 hi hz0 hz1 hz2 rfl _ _ _ rfl hown1 A' n' c' us rfl HU.out (hr'.below hb1) hnil' hbs'.one (by unfold maxLen; omega) (by omega) hs1 ?_)
  intro v2 w2 hown2 hg2
  have hbw2 : Below w.heap.size w w2 := hb1.grown hg2 hs1 (fun x hx => (hown1.lt x hx).1)
  have e2 : w2.ownsRow w.heap.size 24 1 v2 (n + n') (vs ++ us) := by simpa using hown2
  obtain ⟨V, cV, rfl, hV1, hV2, hV3, hV4⟩ := own_slice e2
  have hcat : BSs w2 (vs ++ us) (la ++ lb2) := (hbs.below hbw2).append (hbs'.below hbw2)
  clear hown1 hown2 hg2 hb1 hs1 e2
  go_wp2_with fail
  refine (refSort_any V (n + n') cV (vs ++ us) (la ++ lb2) _ (by rw [List.length_append, HN.out, HN'.out]) (by omega) HL.out hV3 hcat).mono ?_
  rintro e w3 ⟨d, xs, rfl, hown3, hbs3, hb3⟩
  generalize hds : sortU (la ++ lb2) = ds at *
  have HDS := Lib.hid hds
  clear hds
  have hbw3 : Below w.heap.size w w3 := hbw2.trans (hb3.mono hbw2.size)
  have hbx3 := hbs3.below hb3
  obtain ⟨D, cD, rfl, _, _, hD3, _⟩ := own_slice hown3
  clear hV1 hV2 hV3 hV4 hcat hb3 hbs3 hown3
  go_wp2_with fail
  refine (refIds_any D A _ cD _ c xs vs ds la w3 rfl (by omega) HN.out (by omega) hD3 hbx3 (hr.below hbw3) (hbs.below hbw3) HR.out).mono ?_
  rintro e w4 ⟨x, rfl, hx4, hb4⟩
  rw [HI1.out, idsOf_length] at hx4
  have hbw4 : Below w.heap.size w w4 := hbw3.trans (hb4.mono hbw3.size)
  have hD4 := hD3.below hb4
  have hbx4 := hbx3.below hb4
  have hx4' := own_lower hx4 hbw3.size
  clear hx4 hD3 hbx3 hb4
  go_wp2_with fail
  refine (refIds_any D A' _ cD _ c' xs us ds lb2 w4 rfl (by omega) HN'.out (by omega) hD4 hbx4 (hr'.below hbw4) (hbs'.below hbw4) HR.out).mono ?_
  rintro e w5 ⟨y, rfl, hy5, hb5⟩
  rw [HI2.out, idsOf_length] at hy5
  have R : TwoMade la lb2 w (.returned (.tuple #[x, y, .int .i64 (ds.length : Int)])) w5 := by
    refine ⟨x, y, by rw [HDS.out], ?_, ?_, hbw4.trans (hb5.mono hbw4.size)⟩
    · rw [HDS.out]; exact own_below hx4' hb5 (Nat.le_refl _)
    · rw [HDS.out]; exact own_lower hy5 hbw4.size
  clear hy5 hb5 hx4' hD4 hbx4
  go_wp2_with fail
  go_ret3
  exact R

/-- Few tokens, and short ones. -/
def fewB (ls : List Bs) : Bool := decide (ls.length ≤ 40) && ls.all fun t => decide (t.length ≤ 40)
theorem fewB_len {ls : List Bs} (h : fewB ls = true) : ls.length ≤ 40 := by simp [fewB] at h; exact h.1
theorem fewB_each {ls : List Bs} (h : fewB ls = true) : ∀ t ∈ ls, t.length ≤ 40 := by simp [fewB] at h; exact h.2

set_option maxHeartbeats 400000 in
theorem few_any (A : Option Addr) (n c : Nat) (vs : List Value) (ls : List Bs) (w : World) (hn : ls.length = n) (hm : n ≤ maxLen) (hl : ∀ t ∈ ls, t.length ≤ maxLen) (hr : Row w A vs) (hbs : BSs w vs ls) :
    Calls Try.prog 15 #[.slice A n c] w fun e w' => e = .returned (.bool (fewB ls)) ∧ w = w' := by
  subst hn
  unfold maxLen at hm hl
  by_cases hbig : 40 < ls.length
  · have hf : fewB ls = false := by
      cases h : fewB ls with
      | false => rfl
      | true => have := fewB_len h; omega
    rw [hf]
    clear hf hl
    go_enter Try.func15, Try.ntmps15
    go_wp2_with fail
    go_ret
    exact ⟨rfl, rfl⟩
  have HL := Lib.hid hl
  clear hl
  go_enter Try.func15, Try.ntmps15
  go_wp2_with fail
  go_loop [3] (fun i => ∃ k : Nat, k ≤ ls.length ∧ i = .int .i64 k ∧ Hid (∀ t ∈ ls.take k, t.length ≤ 40)) (fun i => ls.length - (intOf i).toNat)
  case atStart => exact ⟨0, Nat.zero_le _, rfl, fun t ht => by simp at ht⟩
  case round =>
    obtain ⟨k, hk, rfl, hkk⟩ := hrel
    by_cases hlt : k < ls.length
    · obtain ⟨g, o, A', c', rfl, hc, h1, h2, h3, h4⟩ := hbs.cell hr hlt
      have htl := HL.out _ (List.getElem_mem hlt)
      by_cases hb : 40 < ls[k].length
      · have hf : fewB ls = false := by
          cases h : fewB ls with
          | false => rfl
          | true => have := fewB_each h _ (List.getElem_mem hlt); omega
        have HF := Lib.hid hf
        clear hf
        go_wp2_with fail
        go_ret
        exact ⟨by rw [HF.out]; rfl, rfl⟩
      · have HS := Lib.hid (List.take_succ_eq_append_getElem hlt)
        go_wp2_with fail
        go_round
        case rel =>
          refine ⟨k + 1, by omega, by go_num, fun t ht => ?_⟩
          rw [HS.out] at ht
          rcases List.mem_append.1 ht with e | e
          · exact hkk.out t e
          · rw [List.mem_singleton] at e; subst e; omega
        case measure => simp [intOf]; omega
    · have hf : fewB ls = true := by
        have h := hkk.out
        rw [List.take_of_length_le (by omega)] at h
        simp [fewB]
        exact ⟨by omega, h⟩
      have HF := Lib.hid hf
      clear hf
      go_wp2_with fail
      go_ret
      exact ⟨by rw [HF.out]; rfl, rfl⟩

end Go.Proofs.Ytjfiokcgmmmboaa
