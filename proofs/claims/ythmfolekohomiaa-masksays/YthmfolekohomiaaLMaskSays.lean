/-
  Proved: for every input tattinglaw6.MaskSays returns true, and its arguments read afterwards as before.
-/
import Derived.Test.YthmfolekohomiaaMk8
import Derived.Test.YthmfolekohomiaaMk6
import Derived.Test.YthmfolekohomiaaArgsI
import Derived.Deep.RegionWith
import Derived.Deep.DeepCutAuto
namespace Go.Proofs.Ythmfolekohomiaa.maskSaysP
open Go.ChangeShapes Go.WideShapes Go.ChangeAt Go.RowKit
open Go.ChangeMaps (open_string shut_string)

/-- The head of a round. -/
def SaysRel (lo hi : Nat) (b : List Int) (A : Option Addr) (v : Value) (w : World) (i : Value) (wr : World) : Prop :=
  ∃ k : Nat, k ≤ b.length + 7 ∧ i = .int .i64 (k : Int) ∧ Msk lo hi b wr v ∧ hi ≤ wr.heap.size ∧ Row wr A (iv b) ∧ Below w.heap.size w wr

set_option maxRecDepth 100000 in
set_option maxHeartbeats 3200000 in
theorem maskSays_walk (A : Option Addr) (n c : Nat) (b : List Int) (sym : Int) (w : World) (ha : ArgI w A n c b) (hs : (Lit.int .i64 sym).wf = true) :
    Calls Try.prog 4 #[.slice A n c, .int .i64 sym] w (Yes w) := by
  obtain ⟨hn, hc, hcm, hr, _, hwf⟩ := ha
  subst hn
  have HW := Lib.hid hwf
  clear hwf
  go_enter Try.func4, Try.ntmps4
  go_wp2_with fail
  refine (awake6 w).mono ?_
  rintro e w1 ⟨rfl, bb1⟩
  have hr1 := hr.below bb1
  clear hr
  by_cases h2 : b.length ≤ 200
  · go_wp2_with fail
    refine (new_any A _ c b w1 rfl (by omega) hr1 HW.out).mono ?_
    rintro e w2 ⟨v, rfl, hm, hb2⟩
    have hr2 := hr1.below hb2
    have bb2 := below_go bb1 hb2
    clear hr1 bb1 hb2
    obtain ⟨p, rfl⟩ := hm.ptr
    have hhi : w2.heap.size ≤ w2.heap.size := Nat.le_refl _
    generalize w1.heap.size = lo at *
    generalize hhe : w2.heap.size = hi at hm hhi
    have hhi' : hi ≤ w2.heap.size := by omega
    clear hhe hhi
    go_wp2_with fail
    go_loopw [6] (fun i wr => SaysRel lo hi b A (.pointer (some ⟨p, 0, none⟩)) w i wr) (fun i _ => b.length + 7 - (RowKit.intOf i).toNat)
    case atStart => exact ⟨0, Nat.zero_le _, rfl, hm, hhi', hr2, bb2⟩
    case round =>
      clear hm hhi' hr2 bb2
      obtain ⟨k, hk, rfl, hm, hhi, hr, hb⟩ := hrel
      by_cases hlt : k < b.length
      · obtain ⟨g, o, rfl, hcl⟩ := hr.int hlt
        have hxw := HW.out b[k] (List.getElem_mem _)
        generalize b[k] = x at *
        have hlb : b.length ≤ 1048576 := by omega
        have hm0 := hm.drew
        have hr0 := hr.drew
        have hh0 : hi ≤ wr.drew.heap.size := hhi
        have hc0 : wr.drew.cell? ⟨g, o + k, none⟩ = some (.int .i64 x) := hcl
        have bb0 := hb.drew
        clear hr hb hhi hm
        go_upto_region 11 with (fail)
        go_cut [35] (fun s wx => s = .bool false ∧ Below wr.drew.heap.size wr.drew wx)
        case first =>
          go_region_with (first
            | (go_at_call 9
               first
                 | (refine (of_any lo hi b _ x wr.drew hlb hh0 hm0 hxw).mono ?_
                    intro e wa ha
                    obtain ⟨Aa, ca, xa, rfl, hxa, _, _, wxa, bxa, hra, _, hba⟩ := ha.out
                    have hca := (hba.cell (p := ⟨g, o + k, none⟩) (World.block_lt_of_cell? _ _ hc0)).trans hc0
                    have hrA := hr0.below hba
                    clear ha)
                 | (refine (of_any lo hi b _ x wm hlb (by have := hbm.size; omega) (hm0.below hh0 hbm) hxw).mono ?_
                    intro e wa ha
                    obtain ⟨Aa, ca, xa, rfl, hxa, _, _, wxa, bxa, hra, _, hba⟩ := ha.out
                    have hbe := below_go hbm hba
                    have hP := hra
                    have hQ := hrm.below hba
                    rw [← made_same hxa hxm wxa wxm bxa bxm (fun _ _ => rfl)] at hQ
                    clear ha))
            | (go_at_call 14
               first
                 | (refine (refMask_any _ _ c b x wr.drew rfl hlb hr0).mono ?_
                    intro e wm ha
                    obtain ⟨Am, cm, xm, rfl, hxm, _, _, wxm, bxm, hrm, _, hbm⟩ := ha.out
                    have hcm := (hbm.cell (p := ⟨g, o + k, none⟩) (World.block_lt_of_cell? _ _ hc0)).trans hc0
                    clear ha)
                 | (refine (refMask_any _ _ c b x wa rfl hlb hrA).mono ?_
                    intro e wm ha
                    obtain ⟨Am, cm, xm, rfl, hxm, _, _, wxm, bxm, hrm, _, hbm⟩ := ha.out
                    have hbe := below_go hba hbm
                    have hP := hra.below hbm
                    have hQ := hrm
                    rw [← made_same hxa hxm wxa wxm bxa bxm (fun _ _ => rfl)] at hQ
                    clear ha))
            | (go_at_call 13
               refine (sameW_yes _ _ _ _ _ xa _ hxa (by have := wds_le b.length; omega) hP hQ).mono ?_
               rintro e we ⟨rfl, q, rfl⟩
               have hfin := Lib.hid (below_drewN hbe q)
               clear hP hQ hbe hxa hxm))
          all_goals (go_wp2_with fail; go_meet; exact ⟨rfl, hfin.out⟩)
        case rest =>
          obtain ⟨rfl, hbc⟩ := hcut
          have R : SaysRel lo hi b (some ⟨g, o, none⟩) (.pointer (some ⟨p, 0, none⟩)) w (.int .i64 ((k + 7 : Nat) : Int)) wc := ⟨k + 7, by omega, rfl, hm0.below hh0 hbc, Nat.le_trans hh0 hbc.size, hr0.below hbc, bb0.trans (hbc.mono bb0.size)⟩
          clear hm0 hr0 hh0 hc0 bb0 hbc
          go_wp2_with fail
          go_roundw
          case rel => exact R
          case measure => simp [RowKit.intOf]; omega
      · have hwl := wds_le b.length
        have hlb : b.length ≤ 1048576 := by omega
        go_wp2_with fail
        refine (len_any lo hi b _ wr hm).mono ?_
        rintro e wa ⟨rfl, ea⟩
        subst ea
        go_wp2_with fail
        refine (mwords_any lo hi b _ wr hm).mono ?_
        rintro e wa ⟨rfl, ea⟩
        subst ea
        go_wp2_with fail
        refine (words_any b.length wr).mono ?_
        rintro e wa ⟨rfl, ea⟩
        subst ea
        go_wp2_with fail
        refine (of_any lo hi b _ sym wr hlb hhi hm hs).mono ?_
        intro e wa ha
        obtain ⟨Aa, ca, xa, rfl, hxa, _, _, wxa, bxa, hra, _, hba⟩ := ha.out
        have hma := hm.below hhi hba
        have hraa := hr.below hba
        have bba := below_go hb hba
        have hsa := hba.size
        clear ha hm hr hb hba
        go_wp2_with fail
        refine (refMask_any A _ c b sym wa rfl hlb hraa).mono ?_
        intro e wm hm'
        obtain ⟨Am, cm, xm, rfl, hxm, _, _, wxm, bxm, hrm, _, hbm⟩ := hm'.out
        have hP := hra.below hbm
        rw [← made_same hxa hxm wxa wxm bxa bxm (fun _ _ => rfl)] at hrm
        have hmm := hma.below (by omega) hbm
        have hraM := hraa.below hbm
        have bbm := below_go bba hbm
        clear hm' hma hraa hra bba hbm wxa bxa wxm bxm hxm
        go_wp2_with fail
        refine (sameW_yes Aa Am _ ca cm xa wm hxa (by omega) hP hrm).mono ?_
        rintro e we ⟨rfl, q, rfl⟩
        have hme : Msk lo hi b (wm.drewN q) (.pointer (some ⟨p, 0, none⟩)) := hmm.keep fun _ _ _ => rfl
        have hre := hraM.drewN q
        have bbe := below_drewN bbm q
        clear hP hrm hmm hraM bbm hxa
        generalize wm.drewN q = we at *
        have HSL := symU_length b
        go_wp2_with fail
        refine (symbols_any lo hi b _ we hlb hme).mono ?_
        intro e wf hf
        obtain ⟨As, cs, rfl, _, _, hrs, _, hbf⟩ := hf.out
        have hrf := hre.below hbf
        have bbf := below_go bbe hbf
        clear hf hme hre bbe hbf
        go_wp2_with fail
        refine (refSym_any A _ c b wf rfl hlb hrf).mono ?_
        intro e wg hg
        obtain ⟨At, ct, rfl, _, _, hrt, _, hbg⟩ := hg.out
        have hrs' := hrs.below hbg
        have bbg := below_go bbf hbg
        clear hg hrf hrs bbf hbg
        go_wp2_with fail
        refine (sameI_yes As At _ cs ct (symU b) wg rfl (by omega) hrs' hrt).mono ?_
        rintro e wh ⟨rfl, q', rfl⟩
        have HY := Lib.hid (Yes.of (below_drewN bbg q'))
        clear hrs' hrt bbg
        go_wp2_with fail
        go_ret
        exact HY.out
  · go_wp2_with fail
    go_ret
    exact Yes.of bb1

/-! ### The row's step -/
theorem own : ownKnob Try.prog.godebug = none := by kernel_rfl
theorem laidOut : laidOutB Try.prog = true := by kernel_rfl

theorem contract (H : Type) (enc : TypeId × Value → H) (W : World) (base : Nat) (args : Array Value) (ds gs : List (DataW H)) (before : List MemPlace)
    (hval : ∀ (j : Nat) t v, Try.f4.params[j]? = some t → args[j]? = some v → Value.okWide Try.prog W .any base t v)
    (hW : DataW.Whole enc Try.prog Try.f4.params.toList Rows.maskSaysSpec.vars false W args.toList ds gs before) :
    Calls Try.prog 4 args W fun e W' => ∃ v, e = .returned v ∧ Rows.maskSaysSpec.post enc Try.prog Try.f4 false true false false W args v W' := by
  have hW' := hW
  obtain ⟨p, q, hA0, hV, rfl, hfz, hnd⟩ := hW
  have hA : DataW.TrodAll enc Try.prog W 0 (fun _ => true) true Try.f4.params.toList args.toList ds p := hA0
  rw [Try.params4] at hA hval
  obtain ⟨v0, vs0, d0, ds0, p0, q0, hargs, rfl, rfl, h0, r0⟩ := trodAll_cons hA
  obtain ⟨v1, vs1, d1, ds1, p1, q1, rfl, rfl, rfl, h1, r1⟩ := trodAll_cons r0
  obtain ⟨rfl, rfl, rfl⟩ := trodAll_nil r1
  obtain rfl : args = #[v0, v1] := by cases args; simp_all
  obtain ⟨rfl, rfl⟩ := trodVars_none hV
  have k0 := h0
  have lt0 : ∀ x ∈ p0, x.block < W.heap.size := by obtain ⟨m, hm⟩ := k0; exact DataW.trod_lt m _ _ _ hm
  obtain ⟨A0, n0, c0, e0⟩ := okWide_slice Try.underlying22 (hval 0 22 v0 rfl rfl)
  subst e0
  obtain ⟨l0, w0⟩ := open_argI Try.underlying22 Try.underlying3 (by kernel_rfl) h0
  have k1 := h1
  have lt1 : ∀ x ∈ p1, x.block < W.heap.size := by obtain ⟨m, hm⟩ := k1; exact DataW.trod_lt m _ _ _ hm
  obtain ⟨a1, e1, _, _, w1⟩ := open_int Try.underlying3 (hval 1 3 v1 rfl rfl) h1
  subst e1
  clear hA0
  refine (maskSays_walk A0 n0 c0 l0 a1 W w0 w1).mono fun e W' ⟨he, bel⟩ => ?_
  subst he
  exact ⟨_, rfl, _, _, _, [], _, [], hW', trodAll_mk1 (shut_bool Try.underlying4 _), (trodAll_cons_mk (Below.trod laidOut (by kernel_rfl) (of_decide_eq_true (by kernel_rfl)) k0 bel lt0) (trodAll_cons_mk (Below.trod laidOut (by kernel_rfl) (of_decide_eq_true (by kernel_rfl)) k1 bel lt1) trodAll_mk0)), rfl, bel.frame _, fun h => by cases h⟩

set_option maxRecDepth 100000 in
theorem lifted (os : Os) (started : os.Started) (H : Type) (enc : TypeId × Value → H) :
    ReturnsInHanded {} Try.checked os 4 .any (Rows.maskSaysSpec.pre6 enc Try.prog Try.f4 Rows.maskSaysRow.domain false) (Rows.maskSaysSpec.post enc Try.prog Try.f4 false true false false) := by
  refine returnsInHanded_of_change (C := Try.checked) own started (by kernel_rfl) Try.func4
    (ChangeSpec.witness6 (enc := enc) (C := Try.checked) false ⟨#[], #[.slice none 0 0, .int .i64 0], []⟩ 8 (by kernel_rfl) (by kernel_rfl) (by kernel_rfl) (by kernel_rfl)) ?_
  intro W base args ds gs before hval hW _ _
  exact contract H enc W base args ds gs before hval hW

/-- The statement. -/
theorem proved : Rows.MaskSaysSaid :=
  OpenClaim.holds_of_wide 4 Try.f4 rfl rfl rfl rfl rfl rfl rfl ⟨rfl, rfl, rfl, rfl, rfl⟩ rfl rfl rfl rfl rfl (by kernel_rfl) Try.func4 (by kernel_rfl)
    (of_decide_eq_true (by kernel_rfl)) (by unfold Func.isWrapper; first | (rw [if_pos (by decide +kernel)]; kernel_rfl) | (rw [if_neg (by decide +kernel)]; exact ⟨rfl, rfl⟩))
    (fun os started H enc _ => lifted os started H enc)

end Go.Proofs.Ythmfolekohomiaa.maskSaysP
