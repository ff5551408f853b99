/-
  Proved: for every input tattinglaw1.TokBack returns true, and its arguments read afterwards as before. No condition.
-/
import Derived.Test.YtjhadoglcmhloaaAwake1
import Derived.Test.YtjhadoglcmhloaaArgs
import Derived.Deep.RegionWith
import Derived.Deep.DeepCutAuto
namespace Go.Proofs.Ytjhadoglcmhloaa.tokBackP
open Go.ChangeShapes Go.WideShapes Go.ChangeAt Go.RowKit
open Go.ChangeMaps (open_string shut_string)

def BackRel (ls : List (List UInt8)) (A : Option Addr) (vs : List Value) (w : World) (i : Value) (wr : World) : Prop :=
  ∃ k : Nat, k ≤ ls.length ∧ i = .int .i64 k ∧ Row wr A vs ∧ BSs wr vs ls ∧ Below w.heap.size w wr

theorem is_true (m : Int) (A : Option Addr) (n c : Nat) (l : List UInt8) (w : World) (hn : l.length = n) (hm : n ≤ maxLen) (hr : Row w A (bv l)) (ht : isTok m l = true) :
    Calls Try.prog 15 #[.int .i64 m, .slice A n c] w fun e w' => e = .returned (.bool true) ∧ w = w' := by
  have h := is_any m A n c l w hn hm hr
  rw [ht] at h
  exact h

/-- The same where draws lie behind, in the form that a region asks for which only reads. -/
theorem is_quiet (m : Int) (A : Option Addr) (n c : Nat) (l : List UInt8) (w : World) (q : Nat) (hn : l.length = n) (hm : n ≤ maxLen) (hr : Row w A (bv l)) (ht : isTok m l = true) :
    Calls Try.prog 15 #[.int .i64 m, .slice A n c] (w.drewN q) fun e w'' => e = .returned (.bool true) ∧ ∃ k, w'' = w.drewN k :=
  (is_true m A n c l (w.drewN q) hn hm (hr.drewN q) ht).mono fun _ _ ⟨he, hw⟩ => ⟨he, q, hw.symm⟩

set_option maxHeartbeats 1600000 in
theorem back_walk_bytes (A : Option Addr) (c : Nat) (l : List UInt8) (w : World) (hc : l.length ≤ c) (hr : Row w A (bv l)) (hsm : l.length ≤ 300) :
    Calls Try.prog 5 #[.bool false, .slice A l.length c] w (Yes w) := by
  go_enter Try.func5, Try.ntmps5
  go_wp2_with fail
  refine (awake_yes _).mono ?_
  rintro e w1 ⟨rfl, hb1⟩
  have hr1 := hr.below hb1
  go_wp2_with fail
  refine (cut_yes 0 A _ c l _ rfl hc (by omega) hr1 (by decide)).mono ?_
  rintro e w2 ⟨v, vs, rfl, hown, hbs, hb2⟩
  have hr2 := hr1.below hb2
  obtain ⟨A1, c1, rfl, _, _, hq1, _⟩ := own_slice hown
  have hcl := cut_len 0 l
  have hfl := Lib.hid (show joined (cut 0 l) = l from cut_flatten 0 l)
  have hqs := hbs.bss
  have hbw : Below w.heap.size w w2 := hb1.trans (hb2.mono hb1.size)
  clear hown hbs hr1 hb1 hb2
  have cvb := conv_any (P := Try.prog) (w := w2.drew) rfl hr2 27 9 5 c Try.underlying27 Try.underlying5 Try.underlying9
  go_upto_region 9 with (fail)
  go_cut [30] (fun s wx => s = .bool false ∧ Below w2.drew.heap.size w2.drew wx)
  case first =>
    go_region_with (go_at_call 18; refine (join_any A1 _ c1 vs (cut 0 l) w2.drew rfl (by omega) hq1 hqs (by rw [hfl.out]; omega)).mono ?_; rintro e w3 ⟨u, rfl, hu, hb3⟩; rw [hfl.out] at hu; obtain ⟨A2, c2, rfl, _, _, hq2, _⟩ := hu.form; have cv2 := conv_any (P := Try.prog) rfl hq2 27 9 5 c2 Try.underlying27 Try.underlying5 Try.underlying9; have cvb2 := conv_any (P := Try.prog) rfl (Row.below (w := w2.drew) hr2 hb3) 27 9 5 c Try.underlying27 Try.underlying5 Try.underlying9)
    all_goals (go_wp2_with fail; go_meet; exact ⟨rfl, by assumption⟩)
  case rest =>
    obtain ⟨rfl, hb3⟩ := hcut
    clear cvb
    have hq3 : Row wc A1 vs := Row.below (w := w2.drew) hq1 hb3
    have hqs3 : BSs wc vs (cut 0 l) := BSs.below (w := w2.drew) hqs hb3
    have hbw3 : Below w.heap.size w wc := hbw.drew.trans (hb3.mono hbw.size)
    clear hq1 hqs hb3 hbw hr2
    go_wp2_with fail
    go_loopw [8] (fun i wr => BackRel (cut 0 l) A1 vs w i wr) (fun i _ => (cut 0 l).length - (intOf i).toNat)
    case atStart => exact ⟨0, Nat.zero_le _, rfl, hq3, hqs3, hbw3⟩
    case round =>
      obtain ⟨k, hk, rfl, hq4, hqs4, hbw4⟩ := hrel
      clear hq3 hqs3 hbw3
      by_cases hlt : k < (cut 0 l).length
      · have htok := Lib.hid (cut_tok (m := 0) (by decide) l (cut 0 l)[k] (List.getElem_mem _))
        obtain ⟨g, o, A2, c2, rfl, hcell, h1, h2, h3, h4⟩ := hqs4.cell hq4 hlt
        have h2' : (cut 0 l)[k].length ≤ maxLen := Nat.le_trans h1 h2
        generalize (cut 0 l)[k] = x at *
        go_wp2_with fail
        go_quiet ((go_at_call 15; exact is_quiet 0 A2 _ c2 x _ _ rfl h2' h3 htok.out))
        go_wp2_with fail
        go_roundw
        case rel => exact ⟨k + 1, by omega, by go_num, hq4, hqs4, below_drewN hbw4 _⟩
        case measure => simp [intOf]; omega
      · go_wp2_with fail
        go_ret
        exact ⟨rfl, hbw4⟩

theorem line_last' {ls : List (List UInt8)} {l : List UInt8} (e : ls = lines l) {k : Nat} (h : k + 1 < ls.length) : ∃ hp : ls[k].length - 1 < ls[k].length, ls[k][ls[k].length - 1] = 10 := by
  subst e
  exact line_last l k h

set_option maxHeartbeats 1600000 in
theorem back_walk_lines (A : Option Addr) (c : Nat) (l : List UInt8) (w : World) (hc : l.length ≤ c) (hr : Row w A (bv l)) (hsm : l.length ≤ 300) :
    Calls Try.prog 5 #[.bool true, .slice A l.length c] w (Yes w) := by
  go_enter Try.func5, Try.ntmps5
  go_wp2_with fail
  refine (awake_yes _).mono ?_
  rintro e w1 ⟨rfl, hb1⟩
  have hr1 := hr.below hb1
  go_wp2_with fail
  refine (cut_yes 1 A _ c l _ rfl hc (by omega) hr1 (by decide)).mono ?_
  rintro e w2 ⟨v, vs, rfl, hown, hbs, hb2⟩
  have hr2 := hr1.below hb2
  obtain ⟨A1, c1, rfl, _, _, hq1, _⟩ := own_slice hown
  have hcl := cut_len 1 l
  have hfl := Lib.hid (show joined (cut 1 l) = l from cut_flatten 1 l)
  have hqs := hbs.bss
  have hbw : Below w.heap.size w w2 := hb1.trans (hb2.mono hb1.size)
  clear hown hbs hr1 hb1 hb2
  have cvb := conv_any (P := Try.prog) (w := w2.drew) rfl hr2 27 9 5 c Try.underlying27 Try.underlying5 Try.underlying9
  go_upto_region 9 with (fail)
  go_cut [30] (fun s wx => s = .bool false ∧ Below w2.drew.heap.size w2.drew wx)
  case first =>
    go_region_with (go_at_call 18; refine (join_any A1 _ c1 vs (cut 1 l) w2.drew rfl (by omega) hq1 hqs (by rw [hfl.out]; omega)).mono ?_; rintro e w3 ⟨u, rfl, hu, hb3⟩; rw [hfl.out] at hu; obtain ⟨A2, c2, rfl, _, _, hq2, _⟩ := hu.form; have cv2 := conv_any (P := Try.prog) rfl hq2 27 9 5 c2 Try.underlying27 Try.underlying5 Try.underlying9; have cvb2 := conv_any (P := Try.prog) rfl (Row.below (w := w2.drew) hr2 hb3) 27 9 5 c Try.underlying27 Try.underlying5 Try.underlying9)
    all_goals (go_wp2_with fail; go_meet; exact ⟨rfl, by assumption⟩)
  case rest =>
    obtain ⟨rfl, hb3⟩ := hcut
    clear cvb
    have hq3 : Row wc A1 vs := Row.below (w := w2.drew) hq1 hb3
    have hqs3 : BSs wc vs (cut 1 l) := BSs.below (w := w2.drew) hqs hb3
    have hbw3 : Below w.heap.size w wc := hbw.drew.trans (hb3.mono hbw.size)
    clear hq1 hqs hb3 hbw hr2
    go_wp2_with fail
    go_loopw [8] (fun i wr => BackRel (cut 1 l) A1 vs w i wr) (fun i _ => (cut 1 l).length - (intOf i).toNat)
    case atStart => exact ⟨0, Nat.zero_le _, rfl, hq3, hqs3, hbw3⟩
    case round =>
      obtain ⟨k, hk, rfl, hq4, hqs4, hbw4⟩ := hrel
      clear hq3 hqs3 hbw3
      by_cases hlt : k < (cut 1 l).length
      · have htok := Lib.hid (cut_tok (m := 1) (by decide) l (cut 1 l)[k] (List.getElem_mem _))
        obtain ⟨g, o, A2, c2, rfl, hcell, h1, h2, h3, h4⟩ := hqs4.cell hq4 hlt
        have h2' : (cut 1 l)[k].length ≤ maxLen := Nat.le_trans h1 h2
        have wk := IntWalk.i64_in ((k : Int) + 1) (by omega)
        by_cases hmore : k + 1 < (cut 1 l).length
        · obtain ⟨hp, hlast⟩ := line_last' (by rfl) hmore
          obtain ⟨g', o', rfl, hc'⟩ := h3.byte hp
          rw [hlast] at hc'
          clear hlast
          have hmo : decide (((k : Int) + 1) < ((cut 1 l).length : Int)) = true := by rw [decide_eq_true_eq]; omega
          generalize (cut 1 l)[k] = x at *
          have hx : x.length ≤ 9223372036854775807 := by unfold maxLen at h2'; omega
          have hz : ((x.length : Int) == 0) = false := by rw [beq_eq_false_iff_ne]; omega
          have wx := IntWalk.i64_in ((x.length : Int) - 1) (by omega)
          have b0 : 0 ≤ (x.length : Int) - 1 := by omega
          have b1 : (x.length : Int) - 1 < (x.length : Int) := by omega
          have b2 : ((x.length : Int) - 1).toNat = x.length - 1 := by omega
          clear hmore
          go_wp2_with fail
          go_quiet ((go_at_call 15; exact is_quiet 1 _ _ c2 x _ _ rfl h2' h3 htok.out))
          go_wp2_with fail
          go_roundw
          case rel => exact ⟨k + 1, by omega, by go_num, hq4, hqs4, below_drewN hbw4 _⟩
          case measure => simp [intOf]; omega
        · have hmo : decide (((k : Int) + 1) < ((cut 1 l).length : Int)) = false := by rw [decide_eq_false_iff_not]; omega
          generalize (cut 1 l)[k] = x at *
          clear hmore
          go_wp2_with fail
          go_quiet ((go_at_call 15; exact is_quiet 1 A2 _ c2 x _ _ rfl h2' h3 htok.out))
          go_wp2_with fail
          go_roundw
          case rel => exact ⟨k + 1, by omega, by go_num, hq4, hqs4, below_drewN hbw4 _⟩
          case measure => simp [intOf]; omega
      · go_wp2_with fail
        go_ret
        exact ⟨rfl, hbw4⟩

theorem tokBack_walk (b : Bool) (A : Option Addr) (n c : Nat) (l : List UInt8) (w : World) (hb : ArgB w A n c l) :
    Calls Try.prog 5 #[.bool b, .slice A n c] w (Yes w) := by
  by_cases hbig : 300 < n
  · go_enter Try.func5, Try.ntmps5
    go_wp2_with fail
    refine (awake_yes _).mono ?_
    rintro e w1 ⟨rfl, hb1⟩
    go_wp2_with fail
    go_ret
    exact ⟨rfl, hb1⟩
  obtain ⟨hn, hc, hcm, hr, hnil⟩ := hb
  subst hn
  cases b
  · exact back_walk_bytes A c l w hc hr (by omega)
  · exact back_walk_lines A c l w hc hr (by omega)

/-! ### The row's step -/
theorem own : ownKnob Try.prog.godebug = none := by kernel_rfl
theorem laidOut : laidOutB Try.prog = true := by kernel_rfl

theorem contract (H : Type) (enc : TypeId × Value → H) (W : World) (base : Nat) (args : Array Value) (ds gs : List (DataW H)) (before : List MemPlace)
    (hval : ∀ (j : Nat) t v, Try.f5.params[j]? = some t → args[j]? = some v → Value.okWide Try.prog W .any base t v)
    (hW : DataW.Whole enc Try.prog Try.f5.params.toList Rows.tokBackSpec.vars false W args.toList ds gs before) :
    Calls Try.prog 5 args W fun e W' => ∃ v, e = .returned v ∧ Rows.tokBackSpec.post enc Try.prog Try.f5 false true false false W args v W' := by
  have hW' := hW
  obtain ⟨p, q, hA0, hV, rfl, hfz, hnd⟩ := hW
  have hA : DataW.TrodAll enc Try.prog W 0 (fun _ => true) true Try.f5.params.toList args.toList ds p := hA0
  rw [Try.params5] at hA hval
  obtain ⟨v0, vs0, d0, ds0, p0, q0, hargs, rfl, rfl, h0, r0⟩ := trodAll_cons hA
  obtain ⟨v1, vs1, d1, ds1, p1, q1, rfl, rfl, rfl, h1, r1⟩ := trodAll_cons r0
  obtain ⟨rfl, rfl, rfl⟩ := trodAll_nil r1
  obtain rfl : args = #[v0, v1] := by cases args; simp_all
  obtain ⟨rfl, rfl⟩ := trodVars_none hV
  have k0 := h0
  have lt0 : ∀ x ∈ p0, x.block < W.heap.size := by obtain ⟨m, hm⟩ := k0; exact DataW.trod_lt m _ _ _ hm
  obtain ⟨a0, e0, _, _⟩ := open_bool Try.underlying4 (hval 0 4 v0 rfl rfl) h0
  subst e0
  have k1 := h1
  have lt1 : ∀ x ∈ p1, x.block < W.heap.size := by obtain ⟨m, hm⟩ := k1; exact DataW.trod_lt m _ _ _ hm
  obtain ⟨A1, n1, c1, e1⟩ := okWide_slice Try.underlying27 (hval 1 27 v1 rfl rfl)
  subst e1
  obtain ⟨l1, w1⟩ := open_argB Try.underlying27 Try.underlying5 (by kernel_rfl) h1
  clear hA0
  refine (tokBack_walk a0 A1 n1 c1 l1 W w1).mono fun e W' ⟨he, bel⟩ => ?_
  subst he
  exact ⟨_, rfl, _, _, _, [], _, [], hW', trodAll_mk1 (shut_bool Try.underlying4 _), (trodAll_cons_mk (Below.trod laidOut (by kernel_rfl) (of_decide_eq_true (by kernel_rfl)) k0 bel lt0) (trodAll_cons_mk (Below.trod laidOut (by kernel_rfl) (of_decide_eq_true (by kernel_rfl)) k1 bel lt1) trodAll_mk0)), rfl, bel.frame _, fun h => by cases h⟩

set_option maxRecDepth 100000 in
theorem lifted (os : Os) (started : os.Started) (H : Type) (enc : TypeId × Value → H) :
    ReturnsInHanded {} Try.checked os 5 .any (Rows.tokBackSpec.pre6 enc Try.prog Try.f5 Rows.tokBackRow.domain false) (Rows.tokBackSpec.post enc Try.prog Try.f5 false true false false) := by
  refine returnsInHanded_of_change (C := Try.checked) own started (by kernel_rfl) Try.func5
    (ChangeSpec.witness6 (enc := enc) (C := Try.checked) false ⟨#[], #[.bool false, .slice none 0 0], []⟩ 8 (by kernel_rfl) (by kernel_rfl) (by kernel_rfl) (by kernel_rfl)) ?_
  intro W base args ds gs before hval hW _ _
  exact contract H enc W base args ds gs before hval hW

/-- The statement. -/
theorem proved : Rows.TokBackSaid :=
  OpenClaim.holds_of_wide 5 Try.f5 rfl rfl rfl rfl rfl rfl rfl ⟨rfl, rfl, rfl, rfl, rfl⟩ rfl rfl rfl rfl rfl (by kernel_rfl) Try.func5 (by kernel_rfl)
    (of_decide_eq_true (by kernel_rfl)) (by unfold Func.isWrapper; first | (rw [if_pos (by decide +kernel)]; kernel_rfl) | (rw [if_neg (by decide +kernel)]; exact ⟨rfl, rfl⟩))
    (fun os started H enc _ => lifted os started H enc)

end Go.Proofs.Ytjhadoglcmhloaa.tokBackP
