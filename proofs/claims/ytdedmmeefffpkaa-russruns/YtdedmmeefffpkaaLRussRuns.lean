/-
  Proved: for every input tattinglaw14.RussRuns returns true, and its arguments read afterwards as before.
-/
import Derived.Test.YtdedmmeefffpkaaM26
import Derived.Test.YtdedmmeefffpkaaM28
namespace Go.Proofs.Ytdedmmeefffpkaa.russRunsP
open Go.ChangeShapes Go.WideShapes Go.ChangeAt Go.RowKit
open Go.ChangeMaps (open_string shut_string)

set_option maxRecDepth 100000 in
set_option maxHeartbeats 1600000 in
theorem russRuns_walk (t : Int) (Aa : Option Addr) (na ca : Nat) (a : List Int) (Ab : Option Addr) (nb cb : Nat) (b : List Int) (w : World) (ht : (Lit.int .u8 t).wf = true) (ha : ArgI w Aa na ca a) (hb : ArgI w Ab nb cb b) :
    Calls Try.prog 5 #[.int .u8 t, .slice Aa na ca, .slice Ab nb cb] w (Yes w) := by
  obtain ⟨hna, hca, hma, r_a, hnila, hwfa⟩ := ha
  have Ha := Lib.hid hna
  have Wa := Lib.hid hwfa
  clear hna hwfa
  unfold maxLen at hma
  obtain ⟨hnb, hcb, hmb, r_b, hnilb, hwfb⟩ := hb
  have Hb := Lib.hid hnb
  have Wb := Lib.hid hwfb
  clear hnb hwfb
  unfold maxLen at hmb
  have Bt := bounds_u8 ht
  obtain ⟨k, hk, hkt⟩ : ∃ k : Nat, k < 3 ∧ t.tmod 3 = (k : Int) := ⟨(t % 3).toNat, by omega, by rw [Int.tmod_eq_emod_of_nonneg Bt.1]; omega⟩
  have HO := Lib.hid (fun w => of14_any t k w Bt hk hkt)
  obtain ⟨s, hs⟩ : ∃ s, 1 + k = s := ⟨_, rfl⟩
  have hS : 1 ≤ s ∧ s ≤ 3 := by omega
  rw [hs] at HO
  clear ht Bt hk hkt hs
  go_enter Try.func5, Try.ntmps5
  go_wp2_with fail
  refine (HO.out _).mono ?_
  rintro e w1 ⟨x, rfl, hT, h0, bb⟩
  clear HO
  go_wp2_with fail
  refine (awake14 _).mono ?_
  rintro e w2 ⟨rfl, hb⟩
  replace hT := hT.below hb
  replace bb := below_go bb hb
  clear hb
  by_cases ga : na ≤ 40
  case neg =>
    go_wp2_with fail
    go_ret
    exact Yes.of bb
  by_cases gb : nb ≤ 40
  case neg =>
    go_wp2_with fail
    go_ret
    exact Yes.of bb
  replace r_a := r_a.below bb
  replace r_b := r_b.below bb
  have hTx := hT
  clear hT
  go_wp2_with fail
  refine (few_any _ na _ a 3 _ Ha.out (by omega) (by decide) (by decide) r_a).mono ?_
  rintro e w3 ⟨v, rfl, hv, hb⟩
  have Hu : Hid ((few 3 a).length = na) := by show _ = _; rw [few_length, Ha.out]
  rw [Hu.out] at hv
  obtain ⟨V_u, c_u, rfl, hq_u, rw_u⟩ := own_rowN hv
  clear hv
  generalize few 3 a = u at *
  have rx_u := rw_u x hTx.lt
  clear rw_u
  replace hTx := hTx.below hb
  replace bb := below_go bb hb
  replace r_b := r_b.below hb
  clear hb
  go_wp2_with fail
  refine (few_any _ nb _ b 3 _ Hb.out (by omega) (by decide) (by decide) r_b).mono ?_
  rintro e w4 ⟨v, rfl, hv, hb⟩
  have Hv : Hid ((few 3 b).length = nb) := by show _ = _; rw [few_length, Hb.out]
  rw [Hv.out] at hv
  obtain ⟨V_v, c_v, rfl, hq_v, rw_v⟩ := own_rowN hv
  clear hv
  generalize few 3 b = v at *
  have rx_v := rw_v x hTx.lt
  clear rw_v
  replace hTx := hTx.below hb
  replace bb := below_go bb hb
  replace rx_u := rx_u.below hb
  clear hb
  go_wp2_with fail
  refine (run_w s x _ _ na nb _ _ u v w w4 hS Hu.out Hv.out (by omega) (by omega) hq_u hq_v rx_u rx_v hTx bb h0).mono ?_
  rintro e w5 ⟨R, V, cR, rfl, ⟨hG, hL⟩, rR, hTx, bb, hg⟩
  have r_u := (rx_u.grown hg).1
  have r_v := (rx_v.grown hg).1
  have HG := Lib.hid hG
  have HL := Lib.hid hL
  have hle := lcs_le_left u v
  rw [Hu.out] at hle
  clear rx_u rx_v hg hG hL
  have HSq := Lib.hid (fun w => squares_any na nb s w (by omega) (by omega) hS)
  generalize upN na s * upN nb s = N at *
  generalize hLc : lcs u v = Lc at *
  have HLc := Lib.hid hLc
  clear hLc
  go_wp2_with fail
  refine (good_any _ _ _ na nb Lc _ _ _ u v R w5 Hu.out Hv.out HL.out (by omega) r_u r_v rR).mono ?_
  rintro e w6 ⟨rfl, hb⟩
  rw [HG.out]
  replace hTx := hTx.below hb
  replace bb := below_go bb hb
  replace r_u := r_u.below hb
  replace r_v := r_v.below hb
  clear hb rR HG HL
  go_wp2_with fail
  refine (len_any _ _ na nb _ _ u v w6 Hu.out Hv.out (by omega) (by omega) r_u r_v).mono ?_
  rintro e w7 ⟨rfl, hb⟩
  rw [HLc.out]
  replace hTx := hTx.below hb
  replace bb := below_go bb hb
  clear hb r_u r_v
  go_wp2_with fail
  refine (side_any x s w7 hTx.c0).mono ?_
  rintro e w' ⟨rfl, rfl⟩
  go_wp2_with fail
  refine (HSq.out w7).mono ?_
  rintro e w8 ⟨rfl, q, hq⟩
  have hb := below_of hq
  clear hq
  replace bb := below_go bb hb
  clear hb hTx
  go_wp2_with fail
  go_ret
  exact Yes.of bb

/-! ### The row's step -/
theorem own : ownKnob Try.prog.godebug = none := by kernel_rfl
theorem laidOut : laidOutB Try.prog = true := by kernel_rfl

set_option maxRecDepth 100000 in
theorem contract (H : Type) (enc : TypeId × Value → H) (W : World) (base : Nat) (args : Array Value) (ds gs : List (DataW H)) (before : List MemPlace)
    (hval : ∀ (j : Nat) t v, Try.f5.params[j]? = some t → args[j]? = some v → Value.okWide Try.prog W .any base t v)
    (hW : DataW.Whole enc Try.prog Try.f5.params.toList Rows.russRunsSpec.vars false W args.toList ds gs before) :
    Calls Try.prog 5 args W fun e W' => ∃ v, e = .returned v ∧ Rows.russRunsSpec.post enc Try.prog Try.f5 false true false false W args v W' := by
  have hW' := hW
  obtain ⟨p, q, hA0, hV, rfl, hfz, hnd⟩ := hW
  have hA : DataW.TrodAll enc Try.prog W 0 (fun _ => true) true Try.f5.params.toList args.toList ds p := hA0
  rw [Try.params5] at hA hval
  obtain ⟨v0, vs0, d0, ds0, p0, q0, hargs, rfl, rfl, h0, r0⟩ := trodAll_cons hA
  obtain ⟨v1, vs1, d1, ds1, p1, q1, rfl, rfl, rfl, h1, r1⟩ := trodAll_cons r0
  obtain ⟨v2, vs2, d2, ds2, p2, q2, rfl, rfl, rfl, h2, r2⟩ := trodAll_cons r1
  obtain ⟨rfl, rfl, rfl⟩ := trodAll_nil r2
  obtain rfl : args = #[v0, v1, v2] := by cases args; simp_all
  obtain ⟨rfl, rfl⟩ := trodVars_none hV
  have k0 := h0
  have lt0 : ∀ x ∈ p0, x.block < W.heap.size := by obtain ⟨m, hm⟩ := k0; exact DataW.trod_lt m _ _ _ hm
  obtain ⟨a0, e0, _, _, w0⟩ := open_int Try.underlying5 (hval 0 5 v0 rfl rfl) h0
  subst e0
  have k1 := h1
  have lt1 : ∀ x ∈ p1, x.block < W.heap.size := by obtain ⟨m, hm⟩ := k1; exact DataW.trod_lt m _ _ _ hm
  obtain ⟨A1, n1, c1, e1⟩ := okWide_slice Try.underlying31 (hval 1 31 v1 rfl rfl)
  subst e1
  obtain ⟨l1, w1⟩ := open_argI Try.underlying31 Try.underlying3 (by kernel_rfl) h1
  have k2 := h2
  have lt2 : ∀ x ∈ p2, x.block < W.heap.size := by obtain ⟨m, hm⟩ := k2; exact DataW.trod_lt m _ _ _ hm
  obtain ⟨A2, n2, c2, e2⟩ := okWide_slice Try.underlying31 (hval 2 31 v2 rfl rfl)
  subst e2
  obtain ⟨l2, w2⟩ := open_argI Try.underlying31 Try.underlying3 (by kernel_rfl) h2
  clear hA0
  refine (russRuns_walk a0 A1 n1 c1 l1 A2 n2 c2 l2 W w0 w1 w2).mono fun e W' ⟨he, bel⟩ => ?_
  subst he
  exact ⟨_, rfl, _, _, _, [], _, [], hW', trodAll_mk1 (shut_bool Try.underlying4 _), (trodAll_cons_mk (Below.trod laidOut (by kernel_rfl) (of_decide_eq_true (by kernel_rfl)) k0 bel lt0) (trodAll_cons_mk (Below.trod laidOut (by kernel_rfl) (of_decide_eq_true (by kernel_rfl)) k1 bel lt1) (trodAll_cons_mk (Below.trod laidOut (by kernel_rfl) (of_decide_eq_true (by kernel_rfl)) k2 bel lt2) trodAll_mk0))), rfl, bel.frame _, fun h => by cases h⟩

set_option maxRecDepth 100000 in
theorem lifted (os : Os) (started : os.Started) (H : Type) (enc : TypeId × Value → H) :
    ReturnsInHanded {} Try.checked os 5 .any (Rows.russRunsSpec.pre6 enc Try.prog Try.f5 Rows.russRunsRow.domain false) (Rows.russRunsSpec.post enc Try.prog Try.f5 false true false false) := by
  refine returnsInHanded_of_change (C := Try.checked) own started (by kernel_rfl) Try.func5
    (ChangeSpec.witness6 (enc := enc) (C := Try.checked) false ⟨#[], #[.int .u8 0, .slice none 0 0, .slice none 0 0], []⟩ 8 (by kernel_rfl) (by kernel_rfl) (by kernel_rfl) (by kernel_rfl)) ?_
  intro W base args ds gs before hval hW _ _
  exact contract H enc W base args ds gs before hval hW

/-- The statement. -/
theorem proved : Rows.RussRunsSaid :=
  OpenClaim.holds_of_wide 5 Try.f5 rfl rfl rfl rfl rfl rfl rfl ⟨rfl, rfl, rfl, rfl, rfl⟩ rfl rfl rfl rfl rfl (by kernel_rfl) Try.func5 (by kernel_rfl)
    (of_decide_eq_true (by kernel_rfl)) (by unfold Func.isWrapper; first | (rw [if_pos (by decide +kernel)]; kernel_rfl) | (rw [if_neg (by decide +kernel)]; exact ⟨rfl, rfl⟩))
    (fun os started H enc _ => lifted os started H enc)

end Go.Proofs.Ytdedmmeefffpkaa.russRunsP
