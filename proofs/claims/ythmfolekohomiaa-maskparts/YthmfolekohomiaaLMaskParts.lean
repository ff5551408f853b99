/-
  Proved: for every input tattinglaw6.MaskParts returns true, and its argument reads afterwards as before.
-/
import Derived.Test.YthmfolekohomiaaMk8
import Derived.Test.YthmfolekohomiaaMkC
import Derived.Test.YthmfolekohomiaaFew
import Derived.Test.YthmfolekohomiaaArgsI
import Derived.Deep.QuietTactic
import Derived.BigQuiet
namespace Go.Proofs.Ythmfolekohomiaa.maskPartsP
open Go.ChangeShapes Go.WideShapes Go.ChangeAt Go.RowKit
open Go.ChangeMaps (open_string shut_string)

/-- The head of a round. -/
def PartsRel (lo hi : Nat) (y : List Int) (S : Option Addr) (v : Value) (w : World) (all nn i : Value) (wr : World) : Prop :=
  ∃ (k m : Nat) (A : Option Addr) (c : Nat) (x : List Nat), k ≤ (symU y).length ∧ i = .int .i64 (k : Int) ∧ nn = .int .i64 (cnt (inS y ((symU y).take k)) y.length : Nat) ∧ all = .slice A m c ∧ x.length = m ∧ m ≤ wds y.length ∧ (0 < k → m = wds y.length) ∧ m ≤ c ∧ c ≤ maxLen ∧ Wd x ∧ Row wr A (uv x) ∧
    (∀ j, bt x j = (decide (j < 64 * m) && inS y ((symU y).take k) j)) ∧ Msk lo hi y wr v ∧ hi ≤ wr.heap.size ∧ Row wr S (iv (symU y)) ∧ Below w.heap.size w wr

theorem few_wf (b : List Int) : ∀ x ∈ few 9 b, (Lit.int .i64 x).wf = true := by
  intro x hx
  obtain ⟨y, _, rfl⟩ := List.mem_map.1 hx
  have h1 := Int.emod_nonneg y (show (9 : Int) ≠ 0 by decide)
  have h2 := Int.emod_lt_of_pos y (show (0 : Int) < 9 by decide)
  exact WalkArith.wf_i64 (by omega)
theorem wid_nat {n : Nat} (h : n ≤ 1048576) : wid (n : Int) = n := by
  unfold wid
  rw [if_neg (by omega), if_neg (by omega)]
  omega
theorem wds_cover {n : Nat} (h : n ≤ 1048576) : n ≤ 64 * wds (n : Int) := by
  have := wds_wid (n : Int)
  rw [wid_nat h] at this
  exact this

theorem pwords_quiet (n : Int) (w : World) (q : Nat) : Calls Try.prog 19 #[.int .i64 n] (w.drewN q) fun e w'' => e = .returned (.int .i64 (wds n : Nat)) ∧ ∃ k, w'' = w.drewN k :=
  (pwords n (w.drewN q)).mono fun _ _ ⟨h, h'⟩ => ⟨h, q, h'.symm⟩

theorem parts_step {lo hi : Nat} {y : List Int} {S : Option Addr} {v : Value} {w w' : World} {k m : Nat} {x xo z : List Nat} {s : Int} {A : Option Addr} {c : Nat} (hy : y.length ≤ 1048576) (hk : (symU y)[k]? = some s) (hmk : 0 < k → m = wds y.length)
    (bx : ∀ j, bt x j = (decide (j < 64 * m) && inS y ((symU y).take k) j)) (bo : ∀ j, bt xo j = (decide (j < 64 * wds y.length) && decide (y[j]? = some s)))
    (hz : z.length = wds y.length) (wz : Wd z) (bz : ∀ j, bt z j = (decide (j < 64 * wds y.length) && (bt x j || bt xo j))) (hc : wds y.length ≤ c) (hcm : c ≤ maxLen) (hr : Row w' A (uv z)) (hmm : Msk lo hi y w' v) (hhi : hi ≤ w'.heap.size) (hs : Row w' S (iv (symU y))) (hb : Below w.heap.size w w') {nn : Int}
    (hn : nn = ((cnt (inS y ((symU y).take k)) y.length : Nat) : Int) + ((cnt (bt xo) (wid y.length) : Nat) : Int)) :
    PartsRel lo hi y S v w (.slice A (wds y.length) c) (.int .i64 nn) (.int .i64 ((k + 1 : Nat) : Int)) w' := by
  obtain ⟨hlt, e⟩ := List.getElem?_eq_some_iff.1 hk
  have hcov := wds_cover hy
  have et : (symU y).take (k + 1) = (symU y).take k ++ [s] := by rw [List.take_succ_eq_append_getElem hlt, e]
  have hnot := up_notin (symU_up y) hk
  refine ⟨k + 1, _, A, c, z, by omega, rfl, ?_, rfl, hz, Nat.le_refl _, fun _ => rfl, hc, hcm, wz, hr, fun j => ?_, hmm, hhi, hs, hb⟩
  · have e1 : cnt (bt xo) (wid y.length) = cnt (fun j => decide (y[j]? = some s)) y.length := by
      rw [wid_nat hy]
      exact cnt_congr _ fun j hj => by rw [bo, decide_eq_true (by omega), Bool.true_and]
    have e2 : cnt (inS y ((symU y).take (k + 1))) y.length = cnt (inS y ((symU y).take k)) y.length + cnt (fun j => decide (y[j]? = some s)) y.length := by
      rw [← cnt_or (fun j hj => inS_apart hnot j hj)]
      exact cnt_congr _ fun j _ => by rw [et, inS_snoc]
    rw [hn, e1, e2]
    rfl
  · rw [bz, bx, bo, et, inS_snoc]
    by_cases hj : j < 64 * wds y.length
    · rw [decide_eq_true hj, Bool.true_and, Bool.true_and, Bool.true_and]
      congr 1
      by_cases h0 : 0 < k
      · rw [hmk h0, decide_eq_true hj, Bool.true_and]
      · have hk0 : k = 0 := by omega
        subst hk0
        rw [List.take_zero, inS_none, Bool.and_false]
    · rw [decide_eq_false hj, Bool.false_and, Bool.false_and]

set_option maxRecDepth 100000 in
set_option maxHeartbeats 3200000 in
theorem maskParts_walk (A : Option Addr) (n c : Nat) (b : List Int) (w : World) (ha : ArgI w A n c b) :
    Calls Try.prog 5 #[.slice A n c] w (Yes w) := by
  obtain ⟨hn, hc, hcm, hr, _, hwf⟩ := ha
  subst hn
  clear hwf
  go_enter Try.func5, Try.ntmps5
  go_wp2_with fail
  refine (awake6 w).mono ?_
  rintro e w1 ⟨rfl, bb1⟩
  have hr1 := hr.below bb1
  clear hr
  by_cases h2 : b.length ≤ 150
  · go_wp2_with fail
    refine (few_any A _ c b 9 w1 rfl (by omega) (by decide) (by decide) hr1).mono ?_
    intro e w2 h
    obtain ⟨Y, cY, rfl, hcY, hcYm, hrY, _, hb2⟩ := h.out
    have bb2 := below_go bb1 hb2
    have hyl := few_length 9 b
    have HYW := Lib.hid (few_wf b)
    clear h hr1 bb1 hb2
    generalize few 9 b = y at *
    have hy : y.length ≤ 150 := by omega
    clear hyl
    go_wp2_with fail
    refine (new_any Y _ cY y w2 rfl (by omega) hrY HYW.out).mono ?_
    rintro e w3 ⟨v, rfl, hm, hb3⟩
    have bb3 := below_go bb2 hb3
    clear hrY bb2 hb3
    obtain ⟨p, rfl⟩ := hm.ptr
    have hhi : w3.heap.size ≤ w3.heap.size := Nat.le_refl _
    generalize w2.heap.size = lo at *
    generalize hhe : w3.heap.size = hi at hm hhi
    have hhi' : hi ≤ w3.heap.size := by omega
    clear hhe hhi
    go_wp2_with fail
    refine (symbols_any lo hi y _ w3 (by omega) hm).mono ?_
    intro e w4 h4
    obtain ⟨S, cS, rfl, hcS, hcSm, hrS, _, hb4⟩ := h4.out
    have bb4 := below_go bb3 hb4
    have hm4 := hm.below hhi' hb4
    have hh4 := Nat.le_trans hhi' hb4.size
    have hsl := symU_length y
    clear h4 bb3 hm hhi' hb4
    go_wp2_with fail
    go_loopw [5, 6, 8] (fun a nn i wr => PartsRel lo hi y S (.pointer (some ⟨p, 0, none⟩)) w a nn i wr) (fun _ _ i _ => (symU y).length - (RowKit.intOf i).toNat)
    case atStart => exact ⟨0, 0, none, 0, [], Nat.zero_le _, rfl, by rw [List.take_zero, cnt_none _ (fun j _ => inS_none y j)]; rfl, rfl, rfl, Nat.zero_le _, fun h => absurd h (Nat.lt_irrefl _), Nat.le_refl _, Nat.zero_le _, (fun u hu => by simp at hu), Row.nil _ _, fun j => by simp [bt], hm4, hh4, hrS, bb4⟩
    case round =>
      clear hm4 hh4 hrS bb4
      obtain ⟨k, m, A5, c5, x, hk, rfl, rfl, rfl, hx, hmW, hmk, hmc, hc5, wx, hrx, bx, hm, hh, hrS, hb⟩ := hrel
      by_cases hlt : k < (symU y).length
      · obtain ⟨g, o, rfl, hcl⟩ := hrS.int hlt
        have HK : Hid ((symU y)[k]? = some (symU y)[k]) := List.getElem?_eq_getElem hlt
        have hsw := HYW.out (symU y)[k] ((symU_mem y _).1 (List.getElem_mem _))
        generalize hsk : (symU y)[k] = s at *
        clear hsk
        have hyb : y.length ≤ 1048576 := by omega
        have hwl := wds_le y.length
        have HS := Lib.hid (fun (xo z : List Nat) (w' : World) (A' : Option Addr) (c' : Nat) (nn : Int) => parts_step (S := some ⟨g, o, none⟩) (lo := lo) (hi := hi) (v := .pointer (some ⟨p, 0, none⟩)) (w := w) (w' := w') (xo := xo) (z := z) (A := A') (c := c') (nn := nn) hyb HK.out hmk bx)
        go_wp2_with fail
        refine (of_any lo hi y _ s wr hyb hh hm hsw).mono ?_
        intro e wa ha
        obtain ⟨Ao, co, xo, rfl, hxo, hco, hcom, wxo, bxo, hro, _, hba⟩ := ha.out
        have hm1 := hm.below hh hba
        have hh1 := Nat.le_trans hh hba.size
        have hrx1 := hrx.below hba
        have hrS1 := hrS.below hba
        have hb1 := below_go hb hba
        have hcl1 := (hba.cell (p := ⟨g, o + k, none⟩) (World.block_lt_of_cell? _ _ hcl)).trans hcl
        clear ha hm hh hrx hrS hb hcl hba bx
        have HPW := Lib.hid (fun q => pwords_quiet y.length wa q)
        have hWm : Hid (max m (wds y.length) = wds y.length) := Nat.max_eq_right hmW
        obtain ⟨W, hW⟩ : ∃ W, wds y.length = W := ⟨_, rfl⟩
        rw [hW] at HPW hWm hxo hco bxo hmW hwl HS ⊢
        clear hW hmk
        have HBO := Lib.hid bxo
        have HCOM := Lib.hid hcom
        have HXO := Lib.hid hxo
        have HX := Lib.hid hx
        clear bxo hcom hxo hx
        have hnb := cnt_le (inS y ((symU y).take k)) y.length
        generalize hN : cnt (inS y ((symU y).take k)) y.length = N at *
        clear hN
        have hnx := cnt_le (bt xo) y.length
        have hneW : ((W : Int) != (W : Int)) = false := by simp
        by_cases hk0 : k = 0
        · subst hk0
          have hg0 : decide ((0 : Int) < (0 : Int)) = false := by decide
          go_wp2_with fail
          go_quiet ((go_at_call 19; exact HPW.out _))
          have hm2 : Msk lo hi y (wa.drewN nq) (.pointer (some ⟨p, 0, none⟩)) := hm1.keep fun _ _ _ => rfl
          have hh2 : hi ≤ (wa.drewN nq).heap.size := hh1
          have hrx2 := hrx1.drewN nq
          have hro2 := hro.drewN nq
          have hrS2 := hrS1.drewN nq
          have hb2 := below_drewN hb1 nq
          clear hm1 hh1 hrx1 hro hrS1 hb1 hcl1 HPW
          generalize wa.drewN nq = wb at *
          go_wp2_with fail
          refine (pcount Ao W co xo y.length wb HXO.out (by omega) hco HCOM.out ⟨by omega, by omega⟩ hro2 wxo).mono ?_
          rintro e wc ⟨rfl, hbc⟩
          have hm3 := hm2.below hh2 hbc
          have hh3 := Nat.le_trans hh2 hbc.size
          have hrx3 := hrx2.below hbc
          have hro3 := hro2.below hbc
          have hrS3 := hrS2.below hbc
          have hb3 := below_go hb2 hbc
          clear hm2 hh2 hrx2 hro2 hrS2 hb2 hbc
          rw [wid_nat hyb]
          have HWN : Hid (wid (y.length : Int) = y.length) := wid_nat hyb
          generalize hNX : cnt (bt xo) y.length = NX at *
          have HNX := Lib.hid hNX
          clear hNX
          go_wp2_with fail
          refine (por A5 Ao m W c5 co x xo wc HX.out HXO.out (by omega) (by omega) hmc hc5 hco HCOM.out hrx3 hro3 wx wxo).mono ?_
          intro e wd hd
          rw [hWm.out] at hd
          obtain ⟨Az, cz, z, rfl, hz, hcz, hczm, wz, bz, hrz, _, hbd⟩ := hd.out
          have R := HS.out xo z wd Az cz ((N : Int) + (NX : Int)) HBO.out hz wz bz hcz hczm hrz (hm3.below hh3 hbd) (Nat.le_trans hh3 hbd.size) (hrS3.below hbd) (below_go hb3 hbd) (by rw [HWN.out, HNX.out])
          clear hd hm3 hh3 hrx3 hro3 hrS3 hb3 hz wz bz hcz hczm hrz hbd HS HBO
          go_wp2_with fail
          go_roundw
          case rel => exact R
          case measure => simp [RowKit.intOf]; omega
        · obtain ⟨k', rfl⟩ : ∃ k', k = k' + 1 := ⟨k - 1, by omega⟩
          have hg0 : decide ((0 : Int) < ((k' + 1 : Nat) : Int)) = true := by rw [decide_eq_true_eq]; omega
          have hg1 : decide ((0 : Int) < (k' : Int) + 1) = true := by rw [decide_eq_true_eq]; omega
          obtain ⟨g', o', e', hcp⟩ := hrS1.int (k := k') (by omega)
          cases e'
          have HKP : Hid ((symU y)[k']? = some (symU y)[k']) := List.getElem?_eq_getElem (by omega)
          generalize hsp : (symU y)[k'] = s' at *
          clear hsp
          have hlt2 := up_prev (symU_up y) HK.out HKP.out
          have hle : decide (s ≤ s') = false := by rw [decide_eq_false_iff_not]; omega
          have wk := IntWalk.i64_in ((k' : Int) + 1 - 1) (by omega)
          have ek : (k' : Int) + 1 - 1 = (k' : Int) := by omega
          have wk2 := IntWalk.i64_in (k' : Int) (by omega)
          go_wp2_with fail
          go_quiet ((go_at_call 19; exact HPW.out _))
          clear hcp wk ek wk2
          have hm2 : Msk lo hi y (wa.drewN nq) (.pointer (some ⟨p, 0, none⟩)) := hm1.keep fun _ _ _ => rfl
          have hh2 : hi ≤ (wa.drewN nq).heap.size := hh1
          have hrx2 := hrx1.drewN nq
          have hro2 := hro.drewN nq
          have hrS2 := hrS1.drewN nq
          have hb2 := below_drewN hb1 nq
          clear hm1 hh1 hrx1 hro hrS1 hb1 hcl1 HPW
          generalize wa.drewN nq = wb at *
          go_wp2_with fail
          refine (pcount Ao W co xo y.length wb HXO.out (by omega) hco HCOM.out ⟨by omega, by omega⟩ hro2 wxo).mono ?_
          rintro e wc ⟨rfl, hbc⟩
          have hm3 := hm2.below hh2 hbc
          have hh3 := Nat.le_trans hh2 hbc.size
          have hrx3 := hrx2.below hbc
          have hro3 := hro2.below hbc
          have hrS3 := hrS2.below hbc
          have hb3 := below_go hb2 hbc
          clear hm2 hh2 hrx2 hro2 hrS2 hb2 hbc
          rw [wid_nat hyb]
          have HWN : Hid (wid (y.length : Int) = y.length) := wid_nat hyb
          generalize hNX : cnt (bt xo) y.length = NX at *
          have HNX := Lib.hid hNX
          clear hNX
          go_wp2_with fail
          refine (por A5 Ao m W c5 co x xo wc HX.out HXO.out (by omega) (by omega) hmc hc5 hco HCOM.out hrx3 hro3 wx wxo).mono ?_
          intro e wd hd
          rw [hWm.out] at hd
          obtain ⟨Az, cz, z, rfl, hz, hcz, hczm, wz, bz, hrz, _, hbd⟩ := hd.out
          have R := HS.out xo z wd Az cz ((N : Int) + (NX : Int)) HBO.out hz wz bz hcz hczm hrz (hm3.below hh3 hbd) (Nat.le_trans hh3 hbd.size) (hrS3.below hbd) (below_go hb3 hbd) (by rw [HWN.out, HNX.out])
          clear hd hm3 hh3 hrx3 hro3 hrS3 hb3 hz wz bz hcz hczm hrz hbd HS HBO
          go_wp2_with fail
          go_roundw
          case rel => exact R
          case measure => simp [RowKit.intOf]; omega
      · have hks : k = (symU y).length := by omega
        subst hks
        rw [List.take_length] at bx
        have hyb : y.length ≤ 1048576 := by omega
        have hwl := wds_le y.length
        have hcov := wds_cover hyb
        have hN : cnt (inS y ((symU y).take (symU y).length)) y.length = y.length := by
          rw [List.take_length]
          exact cnt_all _ fun j hj => inS_all hj
        have hmW2 : m = wds y.length := by
          by_cases h0 : 0 < (symU y).length
          · exact hmk h0
          · have hy0 : y = [] := by
              cases hyy : y with
              | nil => rfl
              | cons a t =>
                have := (symU_mem y a).2 (by rw [hyy]; simp)
                have := List.length_pos_of_mem this
                omega
            have e0 : wds y.length = 0 := by rw [hy0]; decide
            omega
        rw [hN]
        subst hmW2
        have HX := Lib.hid hx
        have HBX := Lib.hid bx
        clear hx bx hmk hN
        go_wp2_with fail
        refine (ponesOK y.length wr ⟨by omega, by omega⟩).mono ?_
        intro e wo ho
        obtain ⟨Ao, co, xo, rfl, hxo, _, _, wxo, bxo, hro, _, hbo⟩ := ho.out
        have hrx2 := hrx.below hbo
        rw [← made_same HX.out hxo wx wxo HBX.out bxo (fun j hj => by
          rw [Bool.and_true, wid_nat hyb]
          by_cases hjl : j < y.length
          · rw [inS_all hjl, decide_eq_true hjl]
          · rw [inS_out hjl, decide_eq_false hjl])] at hro
        have bbo := below_go hb hbo
        have HX := HX.out
        clear ho hrx hbo hb hm hh hrS hxo wxo bxo HBX
        go_wp2_with fail
        refine (sameW_yes A5 Ao _ c5 co x wo HX (by omega) hrx2 hro).mono ?_
        rintro e we ⟨rfl, q, rfl⟩
        have HY := Lib.hid (Yes.of (below_drewN bbo q))
        clear hrx2 hro bbo
        go_wp2_with fail
        go_ret
        exact HY.out
  · go_wp2_with fail
    go_ret
    exact Yes.of bb1

/-! ### The row's step -/
theorem own : ownKnob Try.prog.godebug = none := by kernel_rfl
theorem laidOut : laidOutB Try.prog = true := by kernel_rfl

theorem contract (H : Type) (enc : TypeId × Value → H) (W : World) (base : Nat) (args : Array Value) (ds gs : List (DataW H)) (before : List MemPlace)
    (hval : ∀ (j : Nat) t v, Try.f5.params[j]? = some t → args[j]? = some v → Value.okWide Try.prog W .any base t v)
    (hW : DataW.Whole enc Try.prog Try.f5.params.toList Rows.maskPartsSpec.vars false W args.toList ds gs before) :
    Calls Try.prog 5 args W fun e W' => ∃ v, e = .returned v ∧ Rows.maskPartsSpec.post enc Try.prog Try.f5 false true false false W args v W' := by
  have hW' := hW
  obtain ⟨p, q, hA0, hV, rfl, hfz, hnd⟩ := hW
  have hA : DataW.TrodAll enc Try.prog W 0 (fun _ => true) true Try.f5.params.toList args.toList ds p := hA0
  rw [Try.params5] at hA hval
  obtain ⟨v0, vs0, d0, ds0, p0, q0, hargs, rfl, rfl, h0, r0⟩ := trodAll_cons hA
  obtain ⟨rfl, rfl, rfl⟩ := trodAll_nil r0
  obtain rfl : args = #[v0] := by cases args; simp_all
  obtain ⟨rfl, rfl⟩ := trodVars_none hV
  have k0 := h0
  have lt0 : ∀ x ∈ p0, x.block < W.heap.size := by obtain ⟨m, hm⟩ := k0; exact DataW.trod_lt m _ _ _ hm
  obtain ⟨A0, n0, c0, e0⟩ := okWide_slice Try.underlying22 (hval 0 22 v0 rfl rfl)
  subst e0
  obtain ⟨l0, w0⟩ := open_argI Try.underlying22 Try.underlying3 (by kernel_rfl) h0
  clear hA0
  refine (maskParts_walk A0 n0 c0 l0 W w0).mono fun e W' ⟨he, bel⟩ => ?_
  subst he
  exact ⟨_, rfl, _, _, _, [], _, [], hW', trodAll_mk1 (shut_bool Try.underlying4 _), (trodAll_cons_mk (Below.trod laidOut (by kernel_rfl) (of_decide_eq_true (by kernel_rfl)) k0 bel lt0) trodAll_mk0), rfl, bel.frame _, fun h => by cases h⟩

set_option maxRecDepth 100000 in
theorem lifted (os : Os) (started : os.Started) (H : Type) (enc : TypeId × Value → H) :
    ReturnsInHanded {} Try.checked os 5 .any (Rows.maskPartsSpec.pre6 enc Try.prog Try.f5 Rows.maskPartsRow.domain false) (Rows.maskPartsSpec.post enc Try.prog Try.f5 false true false false) := by
  refine returnsInHanded_of_change (C := Try.checked) own started (by kernel_rfl) Try.func5
    (ChangeSpec.witness6 (enc := enc) (C := Try.checked) false ⟨#[], #[.slice none 0 0], []⟩ 8 (by kernel_rfl) (by kernel_rfl) (by kernel_rfl) (by kernel_rfl)) ?_
  intro W base args ds gs before hval hW _ _
  exact contract H enc W base args ds gs before hval hW

/-- The statement. -/
theorem proved : Rows.MaskPartsSaid :=
  OpenClaim.holds_of_wide 5 Try.f5 rfl rfl rfl rfl rfl rfl rfl ⟨rfl, rfl, rfl, rfl, rfl⟩ rfl rfl rfl rfl rfl (by kernel_rfl) Try.func5 (by kernel_rfl)
    (of_decide_eq_true (by kernel_rfl)) (by unfold Func.isWrapper; first | (rw [if_pos (by decide +kernel)]; kernel_rfl) | (rw [if_neg (by decide +kernel)]; exact ⟨rfl, rfl⟩))
    (fun os started H enc _ => lifted os started H enc)

end Go.Proofs.Ythmfolekohomiaa.maskPartsP
