/-
  Proved: for every input of bulk at most 1048576 tattinglaw1.TokEnds returns true, and its argument reads afterwards as before.
-/
import Derived.Test.YtjhadoglcmhloaaAwake1
import Derived.Test.YtjhadoglcmhloaaArgs
import Derived.Test.YtjhadoglcmhloaaBulk
namespace Go.Proofs.Ytjhadoglcmhloaa.tokEndsP
open Go.ChangeShapes Go.WideShapes Go.ChangeAt Go.RowKit
open Go.ChangeMaps (open_string shut_string)

/-- What holds at every round's head. -/
def EndsHead (A E J : Option Addr) (vs : List Value) (ls : List (List UInt8)) (w : World) (p i : Value) (wr : World) : Prop :=
  ∃ k : Nat, k ≤ ls.length ∧ i = .int .i64 k ∧ p = .int .i64 ((joined (ls.take k)).length : Nat) ∧ Row wr A vs ∧ BSs wr vs ls ∧ Row wr E ((endsTo ls ls.length).map (Value.int .i64)) ∧ Row wr J (bv (joined ls)) ∧ Below w.heap.size w wr

theorem joined_piece (ls : List (List UInt8)) (k : Nat) (hk : k < ls.length) : ((joined ls).drop (joined (ls.take k)).length).take ls[k].length = ls[k] := by
  have h : ls.flatten = (ls.take k).flatten ++ (ls[k] ++ (ls.drop (k + 1)).flatten) := by
    rw [← List.flatten_cons, ← List.drop_eq_getElem_cons hk, ← List.flatten_append, List.take_append_drop]
  unfold joined
  rw [h, List.drop_left, List.take_left]

theorem ends_cell {w : World} {E : Option Addr} {ls : List (List UInt8)} (h : Row w E ((endsTo ls ls.length).map (Value.int .i64))) {k : Nat} (hk : k < ls.length) :
    ∃ g o, E = some ⟨g, o, none⟩ ∧ w.cell? ⟨g, o + k, none⟩ = some (.int .i64 ((joined (ls.take k)).length + ls[k].length : Int)) := by
  obtain ⟨g, o, e, hc⟩ := h.at_ k (by simp [endsTo_length, hk])
  refine ⟨g, o, e, ?_⟩
  rw [hc]
  simp only [endsTo, List.getElem_map, List.getElem_range]
  rw [joined_take ls k hk, List.length_append]
  simp

set_option maxHeartbeats 1600000 in
theorem tokEnds_walk (A : Option Addr) (n c : Nat) (vs : List Value) (ls : List (List UInt8)) (w : World) (hb : ArgT w A n c vs ls) (hs : (joined ls).length ≤ 1048576) :
    Calls Try.prog 6 #[.slice A n c] w (Yes w) := by
  by_cases hbig : 60 < n
  · go_enter Try.func6, Try.ntmps6
    go_wp2_with fail
    refine (awake_yes _).mono ?_
    rintro e w1 ⟨rfl, hb1⟩
    go_wp2_with fail
    go_ret
    exact ⟨rfl, hb1⟩
  obtain ⟨hn, hc, hcm, hr, hbs, hnil⟩ := hb
  subst hn
  clear hnil
  go_enter Try.func6, Try.ntmps6
  go_wp2_with fail
  refine (awake_yes _).mono ?_
  rintro e w1 ⟨rfl, hb1⟩
  have hr1 := hr.below hb1
  have hbs1 := hbs.below hb1
  go_wp2_with fail
  refine (ends_any A _ c vs ls _ rfl (by omega) hr1 hbs1 (by omega)).mono ?_
  rintro e w2 ⟨u, rfl, hown, hb2⟩
  have hr2 := hr1.below hb2
  have hbs2 := hbs1.below hb2
  rw [endsTo_length] at hown
  obtain ⟨E, ce, rfl, _, _, hqe, _⟩ := own_slice hown
  go_wp2_with fail
  refine (join_any A _ c vs ls _ rfl (by omega) hr2 hbs2 (by omega)).mono ?_
  rintro e w3 ⟨u, rfl, hu, hb3⟩
  obtain ⟨J, cj, rfl, hcj, _, hqj, _⟩ := hu.form
  have hr3 := hr2.below hb3
  have hbs3 := hbs2.below hb3
  have hqe3 := hqe.below hb3
  have hbw := (hb1.trans (hb2.mono hb1.size)).trans (hb3.mono (Nat.le_trans hb1.size hb2.size))
  clear hr hbs hr1 hbs1 hr2 hbs2 hqe hown hu hb1 hb2 hb3
  go_wp2_with fail
  go_loopw [5, 6] (fun p i wr => EndsHead A E J vs ls w p i wr) (fun _ i _ => ls.length - (intOf i).toNat)
  case atStart => exact ⟨0, Nat.zero_le _, rfl, rfl, hr3, hbs3, hqe3, hqj, hbw⟩
  case round =>
    clear hr3 hbs3 hqe3 hqj hbw
    obtain ⟨k, hk, rfl, rfl, hr4, hbs4, hqe4, hqj4, hbw4⟩ := hrel
    by_cases hlt : k < ls.length
    · obtain ⟨g, o, A', c', rfl, hc1, h1, h2, h3, _⟩ := hbs4.cell hr4 hlt
      obtain ⟨g2, o2, rfl, hc2⟩ := ends_cell hqe4 hlt
      have hJ := joined_take ls k hlt
      have hle := joined_take_le ls (k + 1)
      rw [hJ, List.length_append] at hle
      have HJ := Lib.hid hJ
      clear hJ
      have hp := hqj4.cut (joined (ls.take k)).length ((joined (ls.take k)).length + ls[k].length) cj (by omega) (by rw [bv_length]; exact hle) (by rw [bv_length]; exact hcj)
      rw [bv_cut, show (joined (ls.take k)).length + ls[k].length - (joined (ls.take k)).length = ls[k].length by omega, joined_piece ls k hlt] at hp
      have R : EndsHead (some ⟨g, o, none⟩) (some ⟨g2, o2, none⟩) J vs ls w (.int .i64 (((joined (ls.take k)).length : Int) + (ls[k].length : Int))) (.int .i64 ((k + 1 : Nat) : Int)) wr :=
        ⟨k + 1, by omega, rfl, by rw [HJ.out, List.length_append]; go_num, hr4, hbs4, hqe4, hqj4, hbw4⟩
      have R2 : ∀ q, EndsHead (some ⟨g, o, none⟩) (some ⟨g2, o2, none⟩) J vs ls w (.int .i64 (((joined (ls.take k)).length : Int) + (ls[k].length : Int))) (.int .i64 ((k + 1 : Nat) : Int)) (wr.drewN q) := fun q => by
        obtain ⟨k', a1, a2, a3, a4, a5, a6, a7, a8⟩ := R
        exact ⟨k', a1, a2, a3, a4, a5, a6, a7, below_drewN a8 q⟩
      have RR := Lib.hid R2
      clear R R2 hr4 hbs4 hqe4 hqj4 hbw4
      have cv := fun q => conv_any (P := Try.prog) (n := ls[k].length) rfl (h3.drewN q) 27 9 5 c' Try.underlying27 Try.underlying5 Try.underlying9
      have cvp := fun q cq => conv_any (P := Try.prog) (n := ls[k].length) rfl (hp.drewN q) 27 9 5 cq Try.underlying27 Try.underlying5 Try.underlying9
      clear hp h3 HJ
      generalize ls[k] = x at *
      generalize (joined (ls.take k)).length = E0 at *
      generalize (joined ls).length = T at *
      have b1 : IntKind.i64.wrap ((E0 : Int) + (x.length : Int) - (E0 : Int)) = (x.length : Int) := by rw [show ((E0 : Int) + (x.length : Int) - (E0 : Int)) = (x.length : Int) by omega]; exact IntWalk.i64_in _ (by omega)
      have b2 : decide ((T : Int) < (E0 : Int) + (x.length : Int)) = false := by rw [decide_eq_false_iff_not]; omega
      have b3 : (E0 : Int) ≤ (E0 : Int) + (x.length : Int) := by omega
      have b4 : (E0 : Int) + (x.length : Int) ≤ (cj : Int) := by omega
      have b5 : ((E0 : Int) + (x.length : Int)).toNat = E0 + x.length := by omega
      by_cases hce : cj = E0
      · rw [if_pos hce] at cvp
        go_wp2_with fail
        go_quiet (fail)
        go_wp2_with fail
        go_roundw
        case rel => exact RR.out _
        case measure => simp [intOf]; omega
      · rw [if_neg hce] at cvp
        go_wp2_with fail
        go_quiet (fail)
        go_wp2_with fail
        go_roundw
        case rel => exact RR.out _
        case measure => simp [intOf]; omega
    · have he : k = ls.length := by omega
      subst he
      rw [List.take_length]
      go_wp2_with fail
      go_ret
      exact ⟨by first | rfl | simp, hbw4⟩

/-! ### The row's step -/
theorem own : ownKnob Try.prog.godebug = none := by kernel_rfl
theorem laidOut : laidOutB Try.prog = true := by kernel_rfl

theorem contract (H : Type) (enc : TypeId × Value → H) (W : World) (base : Nat) (args : Array Value) (ds gs : List (DataW H)) (before : List MemPlace)
    (hval : ∀ (j : Nat) t v, Try.f6.params[j]? = some t → args[j]? = some v → Value.okWide Try.prog W .any base t v)
    (hW : DataW.Whole enc Try.prog Try.f6.params.toList Rows.tokEndsSpec.vars false W args.toList ds gs before) (hk : Rows.uptoSmall H (ds ++ gs) = true) :
    Calls Try.prog 6 args W fun e W' => ∃ v, e = .returned v ∧ Rows.tokEndsSpec.post enc Try.prog Try.f6 false true false false W args v W' := by
  have hW' := hW
  obtain ⟨p, q, hA0, hV, rfl, hfz, hnd⟩ := hW
  have hA : DataW.TrodAll enc Try.prog W 0 (fun _ => true) true Try.f6.params.toList args.toList ds p := hA0
  rw [Try.params6] at hA hval
  obtain ⟨v0, vs0, d0, ds0, p0, q0, hargs, rfl, rfl, h0, r0⟩ := trodAll_cons hA
  obtain ⟨rfl, rfl, rfl⟩ := trodAll_nil r0
  obtain rfl : args = #[v0] := by cases args; simp_all
  obtain ⟨rfl, rfl⟩ := trodVars_none hV
  have k0 := h0
  have lt0 : ∀ x ∈ p0, x.block < W.heap.size := by obtain ⟨m, hm⟩ := k0; exact DataW.trod_lt m _ _ _ hm
  obtain ⟨A0, n0, c0, e0⟩ := okWide_slice Try.underlying23 (hval 0 23 v0 rfl rfl)
  subst e0
  obtain ⟨us0, l0, w0, r0d⟩ := open_argT Try.underlying23 Try.underlying27 Try.underlying5 (by kernel_rfl) (by kernel_rfl) h0
  clear hA0
  simp only [List.append_nil] at hk
  refine (tokEnds_walk A0 n0 c0 us0 l0 W w0 (Nat.le_trans (bulk_rows r0d) (Nat.le_trans (bulk_part (by simp)) (bulk_bound hk)))).mono fun e W' ⟨he, bel⟩ => ?_
  subst he
  exact ⟨_, rfl, _, _, _, [], _, [], hW', trodAll_mk1 (shut_bool Try.underlying4 _), (trodAll_cons_mk (Below.trod laidOut (by kernel_rfl) (of_decide_eq_true (by kernel_rfl)) k0 bel lt0) trodAll_mk0), rfl, bel.frame _, fun h => by cases h⟩

set_option maxRecDepth 100000 in
theorem lifted (os : Os) (started : os.Started) (H : Type) (enc : TypeId × Value → H) (F : Stop.Interp) :
    ReturnsInHanded {} Try.checked os 6 .any ((Rows.OpenSpec.upto Rows.tokEndsSpec).pre6 enc Try.prog Try.f6 Rows.tokEndsUptoRow.domain false) (((Rows.OpenSpec.upto Rows.tokEndsSpec).at F).post enc Try.prog Try.f6 false true false false) := by
  refine returnsInHanded_of_cond (C := Try.checked) (s := Rows.OpenSpec.upto Rows.tokEndsSpec) (k := Rows.uptoSmall) rfl own started (by kernel_rfl) Try.func6
    (OpenSpec.witness (enc := enc) (C := Try.checked) (s := Rows.OpenSpec.upto Rows.tokEndsSpec) (k := Rows.uptoSmall) rfl false ⟨#[], #[.slice none 0 0], []⟩ 8 (by kernel_rfl) (by kernel_rfl) (by kernel_rfl)
      (x := ([.nil], [], [])) (by kernel_rfl) rfl (by kernel_rfl)) ?_
  intro W base args ds gs before hval hW _ hk _
  exact contract H enc W base args ds gs before hval hW hk

/-- The statement. -/
theorem proved : Rows.TokEndsUptoSaid :=
  OpenClaim.holds_of_cond 6 Try.f6 rfl rfl rfl rfl rfl rfl rfl ⟨rfl, rfl, rfl, rfl, rfl⟩ rfl rfl rfl rfl rfl (by kernel_rfl) Try.func6 (by kernel_rfl)
    (of_decide_eq_true (by kernel_rfl)) (by unfold Func.isWrapper; first | (rw [if_pos (by decide +kernel)]; kernel_rfl) | (rw [if_neg (by decide +kernel)]; exact ⟨rfl, rfl⟩))
    (fun os started H enc _ F => lifted os started H enc F)

end Go.Proofs.Ytjhadoglcmhloaa.tokEndsP
