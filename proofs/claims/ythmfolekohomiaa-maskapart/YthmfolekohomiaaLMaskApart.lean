/-
  Proved: for every input tattinglaw6.MaskApart returns true, and its arguments read afterwards as before.
-/
import Derived.Test.YthmfolekohomiaaMk8
import Derived.Test.YthmfolekohomiaaMk6
import Derived.Test.YthmfolekohomiaaArgsI
namespace Go.Proofs.Ythmfolekohomiaa.maskApartP
open Go.ChangeShapes Go.WideShapes Go.ChangeAt Go.RowKit
open Go.ChangeMaps (open_string shut_string)

/-- The head of a round of a loop that writes over a row of the call's own: only that row's block turns. -/
def OverRel (e : TypeId) (base n : Nat) (v : Value) (lo hi : Nat) (b : List Int) (p : Value) (w : World) (i : Value) (wr : World) : Prop :=
  ∃ (k : Nat) (us : List Value), k ≤ n ∧ i = .int .i64 (k : Int) ∧ wr.ownsRow base e 1 v n us ∧ Msk lo hi b wr p ∧ hi ≤ wr.heap.size ∧ Below w.heap.size w wr

theorem over_step {e : TypeId} {base n : Nat} {g c : Nat} {lo hi : Nat} {b : List Int} {p : Value} {w wr : World} {k : Nat} {us : List Value} (hk : k < n) (ho : wr.ownsRow base e 1 (.slice (some ⟨g, 0, none⟩) n c) n us) (hm : Msk lo hi b wr p) (hh : hi ≤ wr.heap.size) (hb : Below w.heap.size w wr)
    (hg : g < lo ∨ hi ≤ g) (hw : w.heap.size ≤ g) (x : Value) : OverRel e base n (.slice (some ⟨g, 0, none⟩) n c) lo hi b p w (.int .i64 ((k + 1 : Nat) : Int)) (wr.setCell ⟨g, k, none⟩ x) := by
  refine ⟨k + 1, _, by omega, rfl, own_setS ho k x, hm.keep fun i h1 h2 => heap_setCell_other _ _ _ _ (fun e => ?_), by simpa using hh, hb.setCell hw _⟩
  simp only at e
  omega
theorem own_cellS {w : World} {base n g c : Nat} {e : TypeId} {us : List Value} (h : w.ownsRow base e 1 (.slice (some ⟨g, 0, none⟩) n c) n us) {k : Nat} (hk : k < n) : ∃ y, w.cell? ⟨g, k, none⟩ = some y := by
  obtain ⟨y, hy⟩ : ∃ y, us[k]? = some y := ⟨_, List.getElem?_eq_getElem (by rw [h.1]; omega)⟩
  have := h.cells (g := g) rfl k y hy
  exact ⟨y, by simpa [Addr.add_lit] using this⟩

set_option maxRecDepth 100000 in
set_option maxHeartbeats 3200000 in
theorem maskApart_walk (A : Option Addr) (n c : Nat) (b : List Int) (sym : Int) (w : World) (ha : ArgI w A n c b) (hs : (Lit.int .i64 sym).wf = true) :
    Calls Try.prog 6 #[.slice A n c, .int .i64 sym] w (Yes w) := by
  obtain ⟨hn, hc, hcm, hr, hnil, hwf⟩ := ha
  subst hn
  obtain ⟨i0, hi0, hz0, hz1, hz2⟩ := info_parts Try.infoInt
  have HW := Lib.hid hwf
  clear hwf
  go_enter Try.func6, Try.ntmps6
  go_wp2_with fail
  refine (awake6 w).mono ?_
  rintro e w1 ⟨rfl, bb1⟩
  have hr1 := hr.below bb1
  have hr0 := Lib.hid hr
  clear hr
  by_cases h2 : b.length ≤ 100
  · have hlb : b.length ≤ 1048576 := by omega
    have hwl := wds_le b.length
    go_wp2_with (at_builtin; refine append_row rfl (.tmp 17) (.tmp 18) 22 rfl w1.heap.size 3 i0 (.int .i64 0) 8 Try.underlying22 hi0 hz0 hz1 hz2 rfl _ 0 [] rfl (own_empty w1 3) A _ c (iv b) rfl (iv_length b) (hr1.alloc _) hnil (iv_one b) (by unfold maxLen; omega) (by omega) (by simp) ?_)
    intro vo w2 hown hg2
    have hb2 : Below w1.heap.size w1 w2 := ((Below.refl _ w1).alloc (Nat.le_refl _) _).grown hg2 (by simp) (fun j hj => by cases hj; exact Nat.le_refl _)
    have bb2 := below_go bb1 hb2
    have hr2 := hr1.below hb2
    have hs12 := bb1.size
    clear hg2 hr1 bb1 hb2
    obtain ⟨O, cO, rfl, hO1, hO2, hrO, _⟩ := own_slice hown
    go_wp2_with fail
    refine (new_any O _ cO b w2 rfl hlb hrO HW.out).mono ?_
    rintro e w3 ⟨v, rfl, hm, hb3⟩
    have bb3 := below_go bb2 hb3
    have hr3 := hr2.below hb3
    have hown3 := own_below hown hb3 (Nat.le_refl _)
    have hOlt : ∀ g, (Value.slice O b.length cO).ownBlock = some g → g < w2.heap.size := fun g e => (hown.lt g e).2
    obtain ⟨p, rfl⟩ := hm.ptr
    have hhi : w3.heap.size ≤ w3.heap.size := Nat.le_refl _
    clear hr2 bb2 hown hb3 hrO
    generalize w2.heap.size = lo at *
    generalize hhe : w3.heap.size = hi at hm hhi
    have hhi' : hi ≤ w3.heap.size := by omega
    clear hhe hhi
    have hR : ∀ wr, Below w.heap.size w wr → Row wr A (iv b) := fun wr h => hr0.out.below h
    go_wp2_with fail
    go_loopw [7] (fun i wr => OverRel 3 w1.heap.size b.length (.slice O b.length cO) lo hi b (.pointer (some ⟨p, 0, none⟩)) w i wr) (fun i _ => b.length - (RowKit.intOf i).toNat)
    case atStart => exact ⟨0, _, Nat.zero_le _, rfl, hown3, hm, hhi', bb3⟩
    case round =>
      clear hown3 hm hhi' bb3
      obtain ⟨k, us, hk, rfl, hown, hm, hh, hb⟩ := hrel
      by_cases hlt : k < b.length
      · obtain ⟨G, d, e, hfz, hG, _⟩ := own_posS hown (by omega)
        cases e
        have hgl := hOlt G rfl
        have R := over_step hlt hown hm hh hb (.inl hgl) (by omega) (.int .i64 sym)
        obtain ⟨y, hy⟩ := own_cellS hown hlt
        have hf := hfz k
        clear hown hm hh hb hR
        go_wp2_with fail
        go_roundw
        case rel => exact R
        case measure => simp [RowKit.intOf]; omega
      · clear hOlt hown
        go_wp2_with fail
        refine (of_any lo hi b _ sym wr hlb hh hm hs).mono ?_
        intro e w4 h4
        obtain ⟨X, cX, x, rfl, hx, hcX, _, _, _, _, hownX, hb4⟩ := h4.out
        have hm4 := hm.below hh hb4
        have hh4 := Nat.le_trans hh hb4.size
        have bb4 := below_go hb hb4
        have hsz := hb.size
        have hhx : hi ≤ wr.heap.size := hh
        clear h4 hm hh hb hb4 hx
        generalize hWd : wds b.length = W at *
        have HWD := Lib.hid hWd
        clear hWd
        go_wp2_with fail
        go_loopw [9] (fun i wr' => OverRel 28 wr.heap.size W (.slice X W cX) lo hi b (.pointer (some ⟨p, 0, none⟩)) w i wr') (fun i _ => W - (RowKit.intOf i).toNat)
        case atStart => exact ⟨0, _, Nat.zero_le _, rfl, hownX, hm4, hh4, bb4⟩
        case round =>
          clear hownX hm4 hh4 bb4
          rename_i wr2
          obtain ⟨k2, us2, hk2, rfl, hown, hm, hh, hb⟩ := hrel
          by_cases hlt2 : k2 < W
          · obtain ⟨G, d, e, hfz, hG, _⟩ := own_posS hown (by omega)
            cases e
            have R := over_step hlt2 hown hm hh hb (.inr (by omega)) (by omega) (.int .u64 85)
            obtain ⟨y, hy⟩ := own_cellS hown hlt2
            have hf := hfz k2
            clear hown hm hh hb hR
            go_wp2_with fail
            go_roundw
            case rel => exact R
            case measure => simp [RowKit.intOf]; omega
          · clear hown hhx
            go_wp2_with fail
            refine (symbols_any lo hi b _ _ hlb hm).mono ?_
            intro e w5 h5
            obtain ⟨Y, cY, rfl, hcY, _, _, hownY, hb5⟩ := h5.out
            have hm5 := hm.below hh hb5
            have hh5 := Nat.le_trans hh hb5.size
            have bb5 := below_go hb hb5
            have hsz5 := hb.size
            have hhx := hh
            have hsl := symU_length b
            clear h5 hm hh hb hb5
            generalize hSb : symU b = sb at *
            have HSB := Lib.hid hSb
            clear hSb
            go_wp2_with fail
            go_loopw [11] (fun i wr' => OverRel 3 _ sb.length (.slice Y sb.length cY) lo hi b (.pointer (some ⟨p, 0, none⟩)) w i wr') (fun i _ => sb.length - (RowKit.intOf i).toNat)
            case atStart => exact ⟨0, _, Nat.zero_le _, rfl, hownY, hm5, hh5, bb5⟩
            case round =>
              clear hownY hm5 hh5 bb5
              obtain ⟨k3, us3, hk3, rfl, hown, hm, hh, hb⟩ := hrel
              by_cases hlt3 : k3 < sb.length
              · obtain ⟨G, d, e, hfz, hG, _⟩ := own_posS hown (by omega)
                cases e
                have R := over_step hlt3 hown hm hh hb (.inr (by omega)) (by omega) (.int .i64 3)
                obtain ⟨y, hy⟩ := own_cellS hown hlt3
                have hf := hfz k3
                clear hown hm hh hb hR
                go_wp2_with fail
                go_roundw
                case rel => exact R
                case measure => simp [RowKit.intOf]; omega
              · clear hown hhx
                have hrw := hR _ hb
                go_wp2_with fail
                refine (of_any lo hi b _ sym _ hlb hh hm hs).mono ?_
                intro e wa ha
                obtain ⟨Aa, ca, xa, rfl, hxa, _, _, wxa, bxa, hra, _, hba⟩ := ha.out
                have hma := hm.below hh hba
                have hha := Nat.le_trans hh hba.size
                have hraa := hrw.below hba
                have bba := below_go hb hba
                clear ha hm hh hb hba hrw hR
                go_wp2_with fail
                refine (refMask_any A _ c b sym wa rfl hlb hraa).mono ?_
                intro e wm hm'
                obtain ⟨Am, cm, xm, rfl, hxm, _, _, wxm, bxm, hrm, _, hbm⟩ := hm'.out
                have hP := hra.below hbm
                rw [← made_same hxa hxm wxa wxm bxa bxm (fun _ _ => rfl)] at hrm
                have hmm := hma.below hha hbm
                have hraM := hraa.below hbm
                have bbm := below_go bba hbm
                clear hm' hma hha hraa hra bba hbm wxa bxa wxm bxm hxm
                have hwl := wds_le b.length
                go_wp2_with fail
                refine (sameW_yes Aa Am _ ca cm xa wm hxa (by omega) hP hrm).mono ?_
                rintro e we ⟨rfl, q, rfl⟩
                have hme : Msk lo hi b (wm.drewN q) (.pointer (some ⟨p, 0, none⟩)) := hmm.keep fun _ _ _ => rfl
                have hre := hraM.drewN q
                have bbe := below_drewN bbm q
                clear hP hrm hmm hraM bbm hxa
                generalize wm.drewN q = we at *
                go_wp2_with fail
                refine (symbols_any lo hi b _ we hlb hme).mono ?_
                intro e wf hf
                rw [HSB.out] at hf
                obtain ⟨As, cs, rfl, _, _, hrs, _, hbf⟩ := hf.out
                have hrf := hre.below hbf
                have bbf := below_go bbe hbf
                clear hf hme hre bbe hbf
                go_wp2_with fail
                refine (refSym_any A _ c b wf rfl hlb hrf).mono ?_
                intro e wg hg
                rw [HSB.out] at hg
                obtain ⟨At, ct, rfl, _, _, hrt, _, hbg⟩ := hg.out
                have hrs' := hrs.below hbg
                have bbg := below_go bbf hbg
                clear hg hrf hrs bbf hbg
                go_wp2_with fail
                refine (sameI_yes As At _ cs ct sb wg rfl (by omega) hrs' hrt).mono ?_
                rintro e wh ⟨rfl, q', rfl⟩
                have HY := Lib.hid (Yes.of (below_drewN bbg q'))
                clear hrs' hrt bbg
                go_wp2_with fail
                go_ret
                exact HY.out
  · go_wp2_with fail
    go_ret
    exact Yes.of bb1

/-! ### The row's step -/
theorem own : ownKnob Try.prog.godebug = none := by kernel_rfl
theorem laidOut : laidOutB Try.prog = true := by kernel_rfl

theorem contract (H : Type) (enc : TypeId × Value → H) (W : World) (base : Nat) (args : Array Value) (ds gs : List (DataW H)) (before : List MemPlace)
    (hval : ∀ (j : Nat) t v, Try.f6.params[j]? = some t → args[j]? = some v → Value.okWide Try.prog W .any base t v)
    (hW : DataW.Whole enc Try.prog Try.f6.params.toList Rows.maskApartSpec.vars false W args.toList ds gs before) :
    Calls Try.prog 6 args W fun e W' => ∃ v, e = .returned v ∧ Rows.maskApartSpec.post enc Try.prog Try.f6 false true false false W args v W' := by
  have hW' := hW
  obtain ⟨p, q, hA0, hV, rfl, hfz, hnd⟩ := hW
  have hA : DataW.TrodAll enc Try.prog W 0 (fun _ => true) true Try.f6.params.toList args.toList ds p := hA0
  rw [Try.params6] at hA hval
  obtain ⟨v0, vs0, d0, ds0, p0, q0, hargs, rfl, rfl, h0, r0⟩ := trodAll_cons hA
  obtain ⟨v1, vs1, d1, ds1, p1, q1, rfl, rfl, rfl, h1, r1⟩ := trodAll_cons r0
  obtain ⟨rfl, rfl, rfl⟩ := trodAll_nil r1
  obtain rfl : args = #[v0, v1] := by cases args; simp_all
  obtain ⟨rfl, rfl⟩ := trodVars_none hV
  have k0 := h0
  have lt0 : ∀ x ∈ p0, x.block < W.heap.size := by obtain ⟨m, hm⟩ := k0; exact DataW.trod_lt m _ _ _ hm
  obtain ⟨A0, n0, c0, e0⟩ := okWide_slice Try.underlying22 (hval 0 22 v0 rfl rfl)
  subst e0
  obtain ⟨l0, w0⟩ := open_argI Try.underlying22 Try.underlying3 (by kernel_rfl) h0
  have k1 := h1
  have lt1 : ∀ x ∈ p1, x.block < W.heap.size := by obtain ⟨m, hm⟩ := k1; exact DataW.trod_lt m _ _ _ hm
  obtain ⟨a1, e1, _, _, w1⟩ := open_int Try.underlying3 (hval 1 3 v1 rfl rfl) h1
  subst e1
  clear hA0
  refine (maskApart_walk A0 n0 c0 l0 a1 W w0 w1).mono fun e W' ⟨he, bel⟩ => ?_
  subst he
  exact ⟨_, rfl, _, _, _, [], _, [], hW', trodAll_mk1 (shut_bool Try.underlying4 _), (trodAll_cons_mk (Below.trod laidOut (by kernel_rfl) (of_decide_eq_true (by kernel_rfl)) k0 bel lt0) (trodAll_cons_mk (Below.trod laidOut (by kernel_rfl) (of_decide_eq_true (by kernel_rfl)) k1 bel lt1) trodAll_mk0)), rfl, bel.frame _, fun h => by cases h⟩

set_option maxRecDepth 100000 in
theorem lifted (os : Os) (started : os.Started) (H : Type) (enc : TypeId × Value → H) :
    ReturnsInHanded {} Try.checked os 6 .any (Rows.maskApartSpec.pre6 enc Try.prog Try.f6 Rows.maskApartRow.domain false) (Rows.maskApartSpec.post enc Try.prog Try.f6 false true false false) := by
  refine returnsInHanded_of_change (C := Try.checked) own started (by kernel_rfl) Try.func6
    (ChangeSpec.witness6 (enc := enc) (C := Try.checked) false ⟨#[], #[.slice none 0 0, .int .i64 0], []⟩ 8 (by kernel_rfl) (by kernel_rfl) (by kernel_rfl) (by kernel_rfl)) ?_
  intro W base args ds gs before hval hW _ _
  exact contract H enc W base args ds gs before hval hW

/-- The statement. -/
theorem proved : Rows.MaskApartSaid :=
  OpenClaim.holds_of_wide 6 Try.f6 rfl rfl rfl rfl rfl rfl rfl ⟨rfl, rfl, rfl, rfl, rfl⟩ rfl rfl rfl rfl rfl (by kernel_rfl) Try.func6 (by kernel_rfl)
    (of_decide_eq_true (by kernel_rfl)) (by unfold Func.isWrapper; first | (rw [if_pos (by decide +kernel)]; kernel_rfl) | (rw [if_neg (by decide +kernel)]; exact ⟨rfl, rfl⟩))
    (fun os started H enc _ => lifted os started H enc)

end Go.Proofs.Ythmfolekohomiaa.maskApartP
