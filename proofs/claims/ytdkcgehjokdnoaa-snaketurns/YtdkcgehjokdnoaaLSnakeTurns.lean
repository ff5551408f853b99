/-
  Proved: for every input tattinglaw17.SnakeTurns returns true, and its arguments read afterwards as before.
-/
import Derived.Test.YtdkcgehjokdnoaaAwake17
import Derived.Test.YtdkcgehjokdnoaaArgsI
import Derived.BigQuiet
namespace Go.Proofs.Ytdkcgehjokdnoaa.snakeTurnsP
open Go.ChangeShapes Go.WideShapes Go.ChangeAt Go.RowKit
open Go.ChangeMaps (open_string shut_string)

set_option maxRecDepth 100000 in
set_option maxHeartbeats 3200000 in
theorem snakeTurns_walk (Aa : Option Addr) (na ca : Nat) (a : List Int) (Ab : Option Addr) (nb cb : Nat) (b : List Int) (i : Int) (j : Int) (w : World) (ha : ArgI w Aa na ca a) (hb : ArgI w Ab nb cb b) (hi : (Lit.int .u8 i).wf = true) (hj : (Lit.int .u8 j).wf = true) :
    Calls Try.prog 6 #[.slice Aa na ca, .slice Ab nb cb, .int .u8 i, .int .u8 j] w (Yes w) := by
  obtain ⟨hna, hca, hma, r_a, hnila, hwfa⟩ := ha
  have Ha := Lib.hid hna
  have Wa := Lib.hid hwfa
  clear hna hwfa
  unfold maxLen at hma
  obtain ⟨hnb, hcb, hmb, r_b, hnilb, hwfb⟩ := hb
  have Hb := Lib.hid hnb
  have Wb := Lib.hid hwfb
  clear hnb hwfb
  unfold maxLen at hmb
  by_cases ga : na ≤ 40
  case neg =>
    go_enter Try.func6, Try.ntmps6
    go_wp2_with fail
    refine (awake17 _).mono ?_
    rintro e w1 ⟨rfl, hb1⟩
    go_wp2_with fail
    go_ret
    exact Yes.of hb1
  by_cases gb : nb ≤ 40
  case neg =>
    go_enter Try.func6, Try.ntmps6
    go_wp2_with fail
    refine (awake17 _).mono ?_
    rintro e w1 ⟨rfl, hb1⟩
    go_wp2_with fail
    go_ret
    exact Yes.of hb1
  have Bi := bounds_u8 hi
  have Bj := bounds_u8 hj
  clear hi hj
  go_enter Try.func6, Try.ntmps6
  go_wp2_with fail
  refine (awake17 _).mono ?_
  rintro e w1 ⟨rfl, hb⟩
  have B := below_go (Below.refl _ _) hb
  replace r_a := r_a.below B
  replace r_b := r_b.below B
  have bb := B
  clear B hb
  go_wp2_with fail
  refine (few_any _ na _ a 2 _ Ha.out (by omega) (by decide) (by decide) r_a).mono ?_
  rintro e w2 ⟨v, rfl, hv, hb⟩
  have Hx : Hid ((few 2 a).length = na) := by show _ = _; rw [few_length, Ha.out]
  rw [Hx.out] at hv
  clear r_a
  replace r_b := r_b.below hb
  replace bb := below_go bb hb
  clear hb
  obtain ⟨V_x, c_x, rfl, hq_x, hx_x, r_x, hnil_x⟩ := own_slice hv
  clear hv
  generalize few 2 a = x at *
  go_wp2_with fail
  refine (few_any _ nb _ b 2 _ Hb.out (by omega) (by decide) (by decide) r_b).mono ?_
  rintro e w3 ⟨v, rfl, hv, hb⟩
  have Hy : Hid ((few 2 b).length = nb) := by show _ = _; rw [few_length, Hb.out]
  rw [Hy.out] at hv
  clear r_b
  replace r_x := r_x.below hb
  replace bb := below_go bb hb
  clear hb
  obtain ⟨V_y, c_y, rfl, hq_y, hx_y, r_y, hnil_y⟩ := own_slice hv
  clear hv
  generalize few 2 b = y at *
  obtain ⟨ip, hip, p1, p2⟩ := place_u8 i na Bi.1
  obtain ⟨jp, hjp, q1, q2⟩ := place_u8 j nb Bj.1
  have wi : IntKind.i64.wrap i = i := IntWalk.i64_in _ (by omega)
  have wj : IntKind.i64.wrap j = j := IntWalk.i64_in _ (by omega)
  have hmx : Try.prog.follows .mixedOrders = true := by kernel_rfl
  have ni : ((na : Int) + 1 == 0) = false := by simp; omega
  have ni2 : (na : Int) + 1 ≠ 0 := by omega
  have nj : ((nb : Int) + 1 == 0) = false := by simp; omega
  have nj2 : (nb : Int) + 1 ≠ 0 := by omega
  go_wp2_with fail
  go_quiet (fail)
  have bz := below_of (rfl : w3.drewN nq = w3.drewN nq)
  replace r_x := r_x.below bz
  replace r_y := r_y.below bz
  replace bb := below_go bb bz
  clear bz p1 p2 q1 q2 wi wj hmx ni ni2 nj nj2
  generalize w3.drewN nq = wz at *
  obtain ⟨T1, T2, T3⟩ := dn_two (x := x) (y := y) Hx.out Hy.out hip hjp
  replace T1 := Lib.hid T1
  replace T2 := Lib.hid T2
  replace T3 := Lib.hid T3
  go_wp2_with fail
  refine (up_in V_x V_y na nb c_x c_y ip jp x y _ Hx.out Hy.out (by omega) (by omega) r_x r_y hip hjp).mono ?_
  rintro e w4 ⟨rfl, q, hq⟩
  have hb := below_of hq
  clear hq
  have B := below_go (Below.refl _ _) hb
  replace r_x := r_x.below B
  replace r_y := r_y.below B
  replace bb := below_go bb B
  clear B hb
  go_wp2_with fail
  refine (turned_any V_x na c_x x _ Hx.out (by omega) r_x).mono ?_
  rintro e w5 ⟨v, rfl, hv, hb⟩
  have Hu : Hid (x.reverse.length = na) := by show _ = _; rw [List.length_reverse, Hx.out]
  rw [Hu.out] at hv
  replace r_x := r_x.below hb
  replace r_y := r_y.below hb
  replace bb := below_go bb hb
  clear hb
  obtain ⟨V_u, c_u, rfl, hq_u, hx_u, r_u, hnil_u⟩ := own_slice hv
  clear hv
  go_wp2_with fail
  refine (turned_any V_y nb c_y y _ Hy.out (by omega) r_y).mono ?_
  rintro e w6 ⟨v, rfl, hv, hb⟩
  have Hv : Hid (y.reverse.length = nb) := by show _ = _; rw [List.length_reverse, Hy.out]
  rw [Hv.out] at hv
  replace r_x := r_x.below hb
  replace r_y := r_y.below hb
  replace r_u := r_u.below hb
  replace bb := below_go bb hb
  clear hb
  obtain ⟨V_v, c_v, rfl, hq_v, hx_v, r_v, hnil_v⟩ := own_slice hv
  clear hv
  go_wp2_with fail
  refine (down_any V_u V_v na nb c_u c_v ((na : Int) - (ip : Int)) ((nb : Int) - (jp : Int)) x.reverse y.reverse _ Hu.out Hv.out hq_u hq_v (by omega) (by omega) r_u r_v).mono ?_
  rintro e w7 ⟨rfl, q, hq⟩
  have hb := below_of hq
  clear hq
  have B := below_go (Below.refl _ _) hb
  replace r_x := r_x.below B
  replace r_y := r_y.below B
  replace r_u := r_u.below B
  replace r_v := r_v.below B
  replace bb := below_go bb B
  clear B hb
  rw [T3.out]
  clear r_u
  clear r_v
  go_wp2_with fail
  refine (down_in V_x V_y na nb c_x c_y ip jp x y _ Hx.out Hy.out hq_x hq_y (by omega) (by omega) r_x r_y hip hjp).mono ?_
  rintro e w8 ⟨rfl, q, hq⟩
  have hb := below_of hq
  clear hq
  have B := below_go (Below.refl _ _) hb
  replace r_x := r_x.below B
  replace r_y := r_y.below B
  replace bb := below_go bb B
  clear B hb
  go_wp2_with fail
  refine (down_in V_y V_x nb na c_y c_x jp ip y x _ Hy.out Hx.out hq_y hq_x (by omega) (by omega) r_y r_x hjp hip).mono ?_
  rintro e w9 ⟨rfl, q, hq⟩
  have hb := below_of hq
  clear hq
  have B := below_go (Below.refl _ _) hb
  replace r_x := r_x.below B
  replace r_y := r_y.below B
  replace bb := below_go bb B
  clear B hb
  rw [← T2.out]
  go_wp2_with fail
  refine (up_in V_y V_x nb na c_y c_x jp ip y x _ Hy.out Hx.out (by omega) (by omega) r_y r_x hjp hip).mono ?_
  rintro e w10 ⟨rfl, q, hq⟩
  have hb := below_of hq
  clear hq
  have B := below_go (Below.refl _ _) hb
  replace r_x := r_x.below B
  replace r_y := r_y.below B
  replace bb := below_go bb B
  clear B hb
  rw [← T1.out]
  go_wp2_with fail
  go_ret
  exact Yes.of bb

/-! ### The row's step -/
theorem own : ownKnob Try.prog.godebug = none := by kernel_rfl
theorem laidOut : laidOutB Try.prog = true := by kernel_rfl

set_option maxRecDepth 100000 in
theorem contract (H : Type) (enc : TypeId × Value → H) (W : World) (base : Nat) (args : Array Value) (ds gs : List (DataW H)) (before : List MemPlace)
    (hval : ∀ (j : Nat) t v, Try.f6.params[j]? = some t → args[j]? = some v → Value.okWide Try.prog W .any base t v)
    (hW : DataW.Whole enc Try.prog Try.f6.params.toList Rows.snakeTurnsSpec.vars false W args.toList ds gs before) :
    Calls Try.prog 6 args W fun e W' => ∃ v, e = .returned v ∧ Rows.snakeTurnsSpec.post enc Try.prog Try.f6 false true false false W args v W' := by
  have hW' := hW
  obtain ⟨p, q, hA0, hV, rfl, hfz, hnd⟩ := hW
  have hA : DataW.TrodAll enc Try.prog W 0 (fun _ => true) true Try.f6.params.toList args.toList ds p := hA0
  rw [Try.params6] at hA hval
  obtain ⟨v0, vs0, d0, ds0, p0, q0, hargs, rfl, rfl, h0, r0⟩ := trodAll_cons hA
  obtain ⟨v1, vs1, d1, ds1, p1, q1, rfl, rfl, rfl, h1, r1⟩ := trodAll_cons r0
  obtain ⟨v2, vs2, d2, ds2, p2, q2, rfl, rfl, rfl, h2, r2⟩ := trodAll_cons r1
  obtain ⟨v3, vs3, d3, ds3, p3, q3, rfl, rfl, rfl, h3, r3⟩ := trodAll_cons r2
  obtain ⟨rfl, rfl, rfl⟩ := trodAll_nil r3
  obtain rfl : args = #[v0, v1, v2, v3] := by cases args; simp_all
  obtain ⟨rfl, rfl⟩ := trodVars_none hV
  have k0 := h0
  have lt0 : ∀ x ∈ p0, x.block < W.heap.size := by obtain ⟨m, hm⟩ := k0; exact DataW.trod_lt m _ _ _ hm
  obtain ⟨A0, n0, c0, e0⟩ := okWide_slice Try.underlying22 (hval 0 22 v0 rfl rfl)
  subst e0
  obtain ⟨l0, w0⟩ := open_argI Try.underlying22 Try.underlying3 (by kernel_rfl) h0
  have k1 := h1
  have lt1 : ∀ x ∈ p1, x.block < W.heap.size := by obtain ⟨m, hm⟩ := k1; exact DataW.trod_lt m _ _ _ hm
  obtain ⟨A1, n1, c1, e1⟩ := okWide_slice Try.underlying22 (hval 1 22 v1 rfl rfl)
  subst e1
  obtain ⟨l1, w1⟩ := open_argI Try.underlying22 Try.underlying3 (by kernel_rfl) h1
  have k2 := h2
  have lt2 : ∀ x ∈ p2, x.block < W.heap.size := by obtain ⟨m, hm⟩ := k2; exact DataW.trod_lt m _ _ _ hm
  obtain ⟨a2, e2, _, _, w2⟩ := open_int Try.underlying5 (hval 2 5 v2 rfl rfl) h2
  subst e2
  have k3 := h3
  have lt3 : ∀ x ∈ p3, x.block < W.heap.size := by obtain ⟨m, hm⟩ := k3; exact DataW.trod_lt m _ _ _ hm
  obtain ⟨a3, e3, _, _, w3⟩ := open_int Try.underlying5 (hval 3 5 v3 rfl rfl) h3
  subst e3
  clear hA0
  refine (snakeTurns_walk A0 n0 c0 l0 A1 n1 c1 l1 a2 a3 W w0 w1 w2 w3).mono fun e W' ⟨he, bel⟩ => ?_
  subst he
  exact ⟨_, rfl, _, _, _, [], _, [], hW', trodAll_mk1 (shut_bool Try.underlying4 _), (trodAll_cons_mk (Below.trod laidOut (by kernel_rfl) (of_decide_eq_true (by kernel_rfl)) k0 bel lt0) (trodAll_cons_mk (Below.trod laidOut (by kernel_rfl) (of_decide_eq_true (by kernel_rfl)) k1 bel lt1) (trodAll_cons_mk (Below.trod laidOut (by kernel_rfl) (of_decide_eq_true (by kernel_rfl)) k2 bel lt2) (trodAll_cons_mk (Below.trod laidOut (by kernel_rfl) (of_decide_eq_true (by kernel_rfl)) k3 bel lt3) trodAll_mk0)))), rfl, bel.frame _, fun h => by cases h⟩

set_option maxRecDepth 100000 in
theorem lifted (os : Os) (started : os.Started) (H : Type) (enc : TypeId × Value → H) :
    ReturnsInHanded {} Try.checked os 6 .any (Rows.snakeTurnsSpec.pre6 enc Try.prog Try.f6 Rows.snakeTurnsRow.domain false) (Rows.snakeTurnsSpec.post enc Try.prog Try.f6 false true false false) := by
  refine returnsInHanded_of_change (C := Try.checked) own started (by kernel_rfl) Try.func6
    (ChangeSpec.witness6 (enc := enc) (C := Try.checked) false ⟨#[], #[.slice none 0 0, .slice none 0 0, .int .u8 0, .int .u8 0], []⟩ 8 (by kernel_rfl) (by kernel_rfl) (by kernel_rfl) (by kernel_rfl)) ?_
  intro W base args ds gs before hval hW _ _
  exact contract H enc W base args ds gs before hval hW

/-- The statement. -/
theorem proved : Rows.SnakeTurnsSaid :=
  OpenClaim.holds_of_wide 6 Try.f6 rfl rfl rfl rfl rfl rfl rfl ⟨rfl, rfl, rfl, rfl, rfl⟩ rfl rfl rfl rfl rfl (by kernel_rfl) Try.func6 (by kernel_rfl)
    (of_decide_eq_true (by kernel_rfl)) (by unfold Func.isWrapper; first | (rw [if_pos (by decide +kernel)]; kernel_rfl) | (rw [if_neg (by decide +kernel)]; exact ⟨rfl, rfl⟩))
    (fun os started H enc _ => lifted os started H enc)

end Go.Proofs.Ytdkcgehjokdnoaa.snakeTurnsP
