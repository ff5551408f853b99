/-
  Proved: for every input tattinglaw2.NamesDense returns true, and its arguments read afterwards as before.
-/
import Derived.Test.YtjfiokcgmmmboaaAwake2
import Derived.Test.YtjfiokcgmmmboaaRefT
import Derived.Test.YtjfiokcgmmmboaaLawKit2
import Derived.Test.YtjfiokcgmmmboaaArgs
namespace Go.Proofs.Ytjfiokcgmmmboaa.namesDenseP
open Go.ChangeShapes Go.WideShapes Go.ChangeAt Go.RowKit
open Go.ChangeMaps (open_string shut_string)

theorem Try.infoBool : (Try.prog.info? 4).map (fun i => (i.zero, i.size, i.bytes)) = some (some (.bool false), 1, 1) := by kernel_rfl

/-- Which numbers below n are among the first k. -/
def seenTo (al : List Int) (n k : Nat) : List Value := (List.range n).map fun j : Nat => Value.bool (decide ((j : Int) ∈ al.take k))
theorem seenTo_length (al : List Int) (n k : Nat) : (seenTo al n k).length = n := by simp [seenTo]
theorem seenTo_zero (al : List Int) (n : Nat) : seenTo al n 0 = List.replicate n (.bool false) := by
  apply List.ext_getElem
  · simp [seenTo]
  · intro i h1 h2
    simp [seenTo]
theorem seenTo_succ (al : List Int) (n k : Nat) (hk : k < al.length) (r : Nat) (hr : al[k] = (r : Int)) : seenTo al n (k + 1) = (seenTo al n k).set r (.bool true) := by
  apply List.ext_getElem
  · simp [seenTo]
  · intro i h1 h2
    have hi : i < n := by simpa [seenTo] using h1
    rw [List.getElem_set]
    simp only [seenTo, List.getElem_map, List.getElem_range]
    rw [List.take_succ_eq_append_getElem hk]
    by_cases e : r = i
    · subst e
      rw [if_pos rfl, hr]
      simp
    · rw [if_neg e, hr]
      congr 2
      simp
      intro h
      omega
theorem seenTo_at {al : List Int} {n k j : Nat} (hj : j < n) (h : (j : Int) ∈ al.take k) : (seenTo al n k)[j]? = some (.bool true) := by
  rw [List.getElem?_eq_getElem (by rw [seenTo_length]; exact hj)]
  simp [seenTo, h]

def DRel (g c : Nat) (V : Value) (al : List Int) (n : Nat) (w : World) (i : Value) (wr : World) : Prop :=
  ∃ k : Nat, k ≤ al.length ∧ i = .int .i64 k ∧ wr.ownsRow w.heap.size 4 1 (.slice (some ⟨g, 0, none⟩) n c) n (seenTo al n k) ∧ wr.ownsRow w.heap.size 3 1 V al.length (iv al) ∧ Below w.heap.size w wr

theorem drel_round {g c n : Nat} {V : Value} {al : List Int} {w wr : World} {k r : Nat} (hk : k < al.length) (hr : al[k] = (r : Int)) (hs : wr.ownsRow w.heap.size 4 1 (.slice (some ⟨g, 0, none⟩) n c) n (seenTo al n k)) (ha : wr.ownsRow w.heap.size 3 1 V al.length (iv al)) (hb : Below w.heap.size w wr) :
    DRel g c V al n w (.int .i64 (k + 1 : Nat)) (wr.setCell ⟨g, r, none⟩ (.bool true)) := by
  have h1 := hs.stored r (.bool true)
  have hg := hs.lt g rfl
  refine ⟨k + 1, by omega, rfl, ?_, ha.kept h1.2 (own_ne ha hs (by decide)), hb.setCell hg.1 _⟩
  rw [seenTo_succ al n k hk r hr]
  exact h1.1

/-- The numbers of both lists, and where they lie. -/
theorem ids_mem {la lz : List Bs} {x : Int} (h : x ∈ idsOf (sortU (la ++ lz)) la ++ idsOf (sortU (la ++ lz)) lz) : ∃ r : Nat, x = r ∧ r < (sortU (la ++ lz)).length := by
  have hR := rises_sortU (la ++ lz)
  rcases List.mem_append.1 h with h | h
  · obtain ⟨t, ht, rfl⟩ := List.mem_map.1 h
    exact ⟨_, rfl, (rank_mem hR (in_left t ht)).1⟩
  · obtain ⟨t, ht, rfl⟩ := List.mem_map.1 h
    exact ⟨_, rfl, (rank_mem hR (in_right t ht)).1⟩
theorem ids_hit {la lz : List Bs} {j : Nat} (h : j < (sortU (la ++ lz)).length) : (j : Int) ∈ idsOf (sortU (la ++ lz)) la ++ idsOf (sortU (la ++ lz)) lz := by
  have hR := rises_sortU (la ++ lz)
  have hj := rank_at hR h
  rcases List.mem_append.1 (mem_sortU.1 (List.getElem_mem h)) with e | e
  · exact List.mem_append_left _ (List.mem_map.2 ⟨_, e, by rw [hj]⟩)
  · exact List.mem_append_right _ (List.mem_map.2 ⟨_, e, by rw [hj]⟩)

/-- What is left where a list is too long. -/
theorem out_few {A A' : Option Addr} {n c n' c' : Nat} {vs us : List Value} {la lz : List Bs} {w : World} (hA : ArgT w A n c vs la) (hB : ArgT w A' n' c' us lz) (h : (fewB la && fewB lz) = false) :
    Calls Try.prog 8 #[.slice A n c, .slice A' n' c'] w (Yes w) := by
  obtain ⟨hn, hc, hcm, hr, hbs, hnil⟩ := hA
  obtain ⟨hn', hc', hcm', hr', hbs', hnil'⟩ := hB
  have HN := Lib.hid hn
  have HN' := Lib.hid hn'
  clear hn hn'
  cases h1 : fewB la with
  | false =>
    have HF := Lib.hid h1
    clear h1 h
    go_enter Try.func8, Try.ntmps8
    go_wp2_with fail
    refine (awake_yes _).mono ?_
    rintro e w1 ⟨rfl, hb1⟩
    go_wp2_with fail
    refine (few_any A n c vs la _ HN.out (by omega) (hbs.below hb1).max (hr.below hb1) (hbs.below hb1)).mono ?_
    rintro e w' ⟨rfl, rfl⟩
    rw [HF.out]
    go_wp2_with fail
    go_ret
    exact ⟨rfl, hb1⟩
  | true =>
    have h2 : fewB lz = false := by rw [h1] at h; simpa using h
    have HF := Lib.hid h1
    have HF2 := Lib.hid h2
    clear h1 h2 h
    go_enter Try.func8, Try.ntmps8
    go_wp2_with fail
    refine (awake_yes _).mono ?_
    rintro e w1 ⟨rfl, hb1⟩
    go_wp2_with fail
    refine (few_any A n c vs la _ HN.out (by omega) (hbs.below hb1).max (hr.below hb1) (hbs.below hb1)).mono ?_
    rintro e w' ⟨rfl, rfl⟩
    rw [HF.out]
    go_wp2_with fail
    refine (few_any A' n' c' us lz _ HN'.out (by omega) (hbs'.below hb1).max (hr'.below hb1) (hbs'.below hb1)).mono ?_
    rintro e w' ⟨rfl, rfl⟩
    rw [HF2.out]
    go_wp2_with fail
    go_ret
    exact ⟨rfl, hb1⟩

set_option maxRecDepth 100000 in
set_option maxHeartbeats 1600000 in
theorem namesDense_walk (A : Option Addr) (n c : Nat) (vs : List Value) (la : List (List UInt8)) (A' : Option Addr) (n' c' : Nat) (us : List Value) (lz : List (List UInt8)) (w : World) (hA : ArgT w A n c vs la) (hB : ArgT w A' n' c' us lz) :
    Calls Try.prog 8 #[.slice A n c, .slice A' n' c'] w (Yes w) := by
  cases hf : fewB la && fewB lz with
  | false => exact out_few hA hB hf
  | true =>
    obtain ⟨hn, hc, hcm, hr, hbs, hnil⟩ := hA
    obtain ⟨hn', hc', hcm', hr', hbs', hnil'⟩ := hB
    have HN := Lib.hid hn
    have HN' := Lib.hid hn'
    rw [Bool.and_eq_true] at hf
    have hl : n ≤ 40 := by rw [← hn]; exact fewB_len hf.1
    have hl' : n' ≤ 40 := by rw [← hn']; exact fewB_len hf.2
    have HF := Lib.hid hf
    clear hf hn hn'
    go_enter Try.func8, Try.ntmps8
    go_wp2_with fail
    refine (awake_yes _).mono ?_
    rintro e w1 ⟨rfl, hb1⟩
    have hr1 := hr.below hb1
    have hbs1 := hbs.below hb1
    have hr1' := hr'.below hb1
    have hbs1' := hbs'.below hb1
    clear hr hbs hr' hbs'
    go_wp2_with fail
    refine (few_any A n c vs la _ HN.out (by omega) hbs1.max hr1 hbs1).mono ?_
    rintro e w' ⟨rfl, rfl⟩
    rw [HF.out.1]
    go_wp2_with fail
    refine (few_any A' n' c' us lz _ HN'.out (by omega) hbs1'.max hr1' hbs1').mono ?_
    rintro e w' ⟨rfl, rfl⟩
    rw [HF.out.2]
    go_wp2_with fail
    refine (nmTwo_any A A' n c n' c' vs us la lz _ HN.out HN'.out (by omega) (by omega) hr1 hbs1 hnil hr1' hbs1' hnil').mono ?_
    rintro e w2 ⟨x, y, rfl, hx, hy, hb2⟩
    rw [HN.out] at hx
    rw [HN'.out] at hy
    obtain ⟨X, cX, rfl, _, _, hX, hXn⟩ := own_slice hx
    obtain ⟨Y, cY, rfl, _, _, hY, hYn⟩ := own_slice hy
    have hr2 := hr1.below hb2
    have hbs2 := hbs1.below hb2
    have hr2' := hr1'.below hb2
    have hbs2' := hbs1'.below hb2
    have hbw2 := hb1.trans (hb2.mono hb1.size)
    clear hx hy hr1 hbs1 hr1' hbs1' hb2 hb1
    have hdl := sortU_length (la ++ lz)
    rw [List.length_append, HN.out, HN'.out] at hdl
    have HX := Lib.hid (fun x h => ids_mem (la := la) (lz := lz) (x := x) h)
    have HH := Lib.hid (fun j h => ids_hit (la := la) (lz := lz) (j := j) h)
    have hl1 : (idsOf (sortU (la ++ lz)) la).length = n := (idsOf_length _ _).trans HN.out
    have hl2 : (idsOf (sortU (la ++ lz)) lz).length = n' := (idsOf_length _ _).trans HN'.out
    generalize idsOf (sortU (la ++ lz)) la = ia at *
    generalize idsOf (sortU (la ++ lz)) lz = iz at *
    generalize (sortU (la ++ lz)).length = N at *
    have HL1 := Lib.hid hl1
    have HL2 := Lib.hid hl2
    have hneq : ((n : Int) != (n : Int)) = false := by simp
    have hneq' : ((n' : Int) != (n' : Int)) = false := by simp
    have hN0 : ¬ ((N : Int) < 0) := by omega
    have hN1 : ¬ ((N : Int) > 80) := by omega
    obtain ⟨i0, hi, hz0, hz1, hz2⟩ := info_parts Try.infoBool
    obtain ⟨j0, ji, jz0, jz1, jz2⟩ := info_parts Try.infoInt
    clear hr2 hbs2 hr2' hbs2' hl1 hl2
    go_wp2_with (at_make; refine wpList_make_full _ rfl _ _ 38 rfl w.heap.size 4 i0 (.bool false) 1 Try.underlying38 hi hz0 hz1 .i64 .i64 _ _ N rfl rfl rfl rfl (by rw [hz2]; omega) (by unfold maxLen; omega) hbw2.size ?_)
    intro w3 hown3 hg3
    rw [toList_madeCells_one] at hown3
    have hb3 : Below w2.heap.size w2 w3 := (Below.refl _ _).grown hg3 (Nat.le_refl _) (fun k hk => by cases hk)
    have hbw3 := hbw2.trans (hb3.mono hbw2.size)
    have hX3 := hX.below hb3
    have hY3 := hY.below hb3
    have hs3 := hbw3.size
    have hg2 : w.heap.size ≤ w2.heap.size := hbw2.size
    generalize w2.heap.size = gS at *
    clear hg3 hb3 hX hY hbw2
    go_wp2_with (at_builtin; refine append_row rfl (.tmp 51) (.tmp 52) 27 rfl w.heap.size 3 j0 (.int .i64 0) 8 Try.underlying27 ji jz0 jz1 jz2 rfl _ _ _ rfl (own_e0 w3 _ hs3) X n cX (iv ia) rfl (by rw [iv_length, HL1.out]) (hX3.alloc _) hXn (iv_one _) (by unfold maxLen; omega) (by omega) (by first | omega | (simp; done) | (simp; omega)) ?_)
    intro v4 w4 hown4 hg4
    have hb4 : Below w3.heap.size w3 w4 := ((Below.refl _ w3).alloc (Nat.le_refl _) _).grown hg4 (by simp) (fun x hx => by cases hx; exact Nat.le_refl _)
    have hbw4 := hbw3.trans (hb4.mono hs3)
    have hseen4 := own_below hown3 hb4 (Nat.le_refl _)
    have hs4 := hbw4.size
    have hY4 := hY3.below hb4
    clear hg4 hown3 hX3 hY3 hb4
    go_wp2_with (at_builtin; refine append_row rfl (.tmp 53) (.tmp 54) 27 rfl w.heap.size 3 j0 (.int .i64 0) 8 Try.underlying27 ji jz0 jz1 jz2 rfl _ _ _ rfl hown4 Y n' cY (iv iz) rfl (by rw [iv_length, HL2.out]) hY4 hYn (iv_one _) (by unfold maxLen; omega) (by omega) hs4 ?_)
    intro v5 w5 hown5 hg5
    have hbw5 : Below w.heap.size w w5 := hbw4.grown hg5 hs4 (fun x hx => (hown4.lt x hx).1)
    have hseen5 := hseen4.kept hg5 (own_ne hseen4 hown4 (by decide))
    have hall : w5.ownsRow w.heap.size 3 1 v5 (ia ++ iz).length (iv (ia ++ iz)) := by
      rw [List.length_append, HL1.out, HL2.out, iv_append]
      simpa using hown5
    have hal : (ia ++ iz).length = n + n' := by rw [List.length_append, HL1.out, HL2.out]
    obtain ⟨V, cV, rfl, _, _, _, hVn⟩ := own_slice hall
    rw [← seenTo_zero (ia ++ iz) N] at hseen5
    generalize ia ++ iz = al at *
    clear hseen4 hown4 hg5 hown5 hY4 hbw4 hbw3
    generalize hM : al.length = M at *
    have HM := Lib.hid hM
    clear hM
    go_wp2_with fail
    go_loopw [10] (fun i wr => DRel gS N (.slice V M cV) al N w i wr) (fun i _ => M - (intOf i).toNat)
    case atStart => exact ⟨0, Nat.zero_le _, rfl, hseen5, by rw [HM.out]; exact hall, hbw5⟩
    case round =>
      clear hseen5 hall hbw5
      obtain ⟨k, hk, rfl, hseen, hall, hbr⟩ := hrel
      by_cases hlt : k < M
      · have hka : k < al.length := by rw [HM.out]; exact hlt
        have hall2 : wr.ownsRow w.heap.size 3 1 (.slice V M cV) M (iv al) := by
          have h := hall
          rw [HM.out] at h
          exact h
        obtain ⟨gv, ov, rfl, hcv⟩ := (Row.of_own hall2).int (k := k) hka
        obtain ⟨r, hr, hrN⟩ := HX.out _ (List.getElem_mem hka)
        have R := drel_round hka hr hseen hall hbr
        rw [hr] at hcv
        have hcs : wr.cell? ⟨gS, r, none⟩ = some (.bool (decide ((r : Int) ∈ al.take k))) := by
          rw [hseen.cellAt r (by omega), List.getElem?_eq_getElem (by rw [seenTo_length]; exact hrN)]
          simp [seenTo]
        have hfs := hseen.frozenAt r
        have HR := Lib.hid R
        have hr0 : ¬ ((r : Int) < 0) := by omega
        have hr1 : ¬ ((r : Int) ≥ (N : Int)) := by omega
        clear R hseen hall hall2 hbr hr
        generalize decide ((r : Int) ∈ al.take k) = bo at hcs
        go_wp2_with fail
        go_roundw
        case rel => exact HR.out
        case measure => simp [intOf]; omega
      · have hke : k = al.length := by rw [HM.out]; rw [HM.out] at hk; omega
        subst hke
        clear hall
        have hs' : ∀ j, j < N → wr.cell? ⟨gS, j, none⟩ = some (.bool true) := fun j hj => by
          rw [hseen.cellAt j (by omega)]
          exact seenTo_at hj (by rw [List.take_length]; exact HH.out j hj)
        have HS := Lib.hid hs'
        clear hs' hseen
        go_wp2_with fail
        go_loop [11] (fun i => ∃ j : Nat, j ≤ N ∧ i = .int .i64 j) (fun i => N - (intOf i).toNat)
        case atStart => exact ⟨0, Nat.zero_le _, rfl⟩
        case round =>
          obtain ⟨j, hj, rfl⟩ := hrel
          by_cases hlt2 : j < N
          · have hcj := HS.out j hlt2
            go_wp2_with fail
            go_round
            case rel => exact ⟨j + 1, by omega, by go_num⟩
            case measure => simp [intOf]; omega
          · go_wp2_with fail
            go_ret
            exact ⟨rfl, hbr⟩

/-! ### The row's step -/
theorem own : ownKnob Try.prog.godebug = none := by kernel_rfl
theorem laidOut : laidOutB Try.prog = true := by kernel_rfl

theorem contract (H : Type) (enc : TypeId × Value → H) (W : World) (base : Nat) (args : Array Value) (ds gs : List (DataW H)) (before : List MemPlace)
    (hval : ∀ (j : Nat) t v, Try.f8.params[j]? = some t → args[j]? = some v → Value.okWide Try.prog W .any base t v)
    (hW : DataW.Whole enc Try.prog Try.f8.params.toList Rows.namesDenseSpec.vars false W args.toList ds gs before) :
    Calls Try.prog 8 args W fun e W' => ∃ v, e = .returned v ∧ Rows.namesDenseSpec.post enc Try.prog Try.f8 false true false false W args v W' := by
  have hW' := hW
  obtain ⟨p, q, hA0, hV, rfl, hfz, hnd⟩ := hW
  have hA : DataW.TrodAll enc Try.prog W 0 (fun _ => true) true Try.f8.params.toList args.toList ds p := hA0
  rw [Try.params8] at hA hval
  obtain ⟨v0, vs0, d0, ds0, p0, q0, hargs, rfl, rfl, h0, r0⟩ := trodAll_cons hA
  obtain ⟨v1, vs1, d1, ds1, p1, q1, rfl, rfl, rfl, h1, r1⟩ := trodAll_cons r0
  obtain ⟨rfl, rfl, rfl⟩ := trodAll_nil r1
  obtain rfl : args = #[v0, v1] := by cases args; simp_all
  obtain ⟨rfl, rfl⟩ := trodVars_none hV
  have k0 := h0
  have lt0 : ∀ x ∈ p0, x.block < W.heap.size := by obtain ⟨m, hm⟩ := k0; exact DataW.trod_lt m _ _ _ hm
  obtain ⟨A0, n0, c0, e0⟩ := okWide_slice Try.underlying22 (hval 0 22 v0 rfl rfl)
  subst e0
  obtain ⟨us0, l0, w0, r0d⟩ := open_argT Try.underlying22 Try.underlying24 Try.underlying5 (by kernel_rfl) (by kernel_rfl) h0
  have k1 := h1
  have lt1 : ∀ x ∈ p1, x.block < W.heap.size := by obtain ⟨m, hm⟩ := k1; exact DataW.trod_lt m _ _ _ hm
  obtain ⟨A1, n1, c1, e1⟩ := okWide_slice Try.underlying22 (hval 1 22 v1 rfl rfl)
  subst e1
  obtain ⟨us1, l1, w1, r1d⟩ := open_argT Try.underlying22 Try.underlying24 Try.underlying5 (by kernel_rfl) (by kernel_rfl) h1
  clear hA0
  refine (namesDense_walk A0 n0 c0 us0 l0 A1 n1 c1 us1 l1 W w0 w1).mono fun e W' ⟨he, bel⟩ => ?_
  subst he
  exact ⟨_, rfl, _, _, _, [], _, [], hW', trodAll_mk1 (shut_bool Try.underlying4 _), (trodAll_cons_mk (Below.trod laidOut (by kernel_rfl) (of_decide_eq_true (by kernel_rfl)) k0 bel lt0) (trodAll_cons_mk (Below.trod laidOut (by kernel_rfl) (of_decide_eq_true (by kernel_rfl)) k1 bel lt1) trodAll_mk0)), rfl, bel.frame _, fun h => by cases h⟩

set_option maxRecDepth 100000 in
theorem lifted (os : Os) (started : os.Started) (H : Type) (enc : TypeId × Value → H) :
    ReturnsInHanded {} Try.checked os 8 .any (Rows.namesDenseSpec.pre6 enc Try.prog Try.f8 Rows.namesDenseRow.domain false) (Rows.namesDenseSpec.post enc Try.prog Try.f8 false true false false) := by
  refine returnsInHanded_of_change (C := Try.checked) own started (by kernel_rfl) Try.func8
    (ChangeSpec.witness6 (enc := enc) (C := Try.checked) false ⟨#[], #[.slice none 0 0, .slice none 0 0], []⟩ 8 (by kernel_rfl) (by kernel_rfl) (by kernel_rfl) (by kernel_rfl)) ?_
  intro W base args ds gs before hval hW _ _
  exact contract H enc W base args ds gs before hval hW

/-- The statement. -/
theorem proved : Rows.NamesDenseSaid :=
  OpenClaim.holds_of_wide 8 Try.f8 rfl rfl rfl rfl rfl rfl rfl ⟨rfl, rfl, rfl, rfl, rfl⟩ rfl rfl rfl rfl rfl (by kernel_rfl) Try.func8 (by kernel_rfl)
    (of_decide_eq_true (by kernel_rfl)) (by unfold Func.isWrapper; first | (rw [if_pos (by decide +kernel)]; kernel_rfl) | (rw [if_neg (by decide +kernel)]; exact ⟨rfl, rfl⟩))
    (fun os started H enc _ => lifted os started H enc)

end Go.Proofs.Ytjfiokcgmmmboaa.namesDenseP
