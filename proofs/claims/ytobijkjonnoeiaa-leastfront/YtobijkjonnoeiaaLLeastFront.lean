/-
  Proved: for every input tattinglaw9.LeastFront returns true, and its arguments read afterwards as before.
-/
import Derived.Test.YtobijkjonnoeiaaAwake9
import Derived.Test.YtobijkjonnoeiaaArgsI
import Derived.Test.YtobijkjonnoeiaaArgsP
import Derived.Test.YtobijkjonnoeiaaRnd
namespace Go.Proofs.Ytobijkjonnoeiaa.leastFrontP
open Go.ChangeShapes Go.WideShapes Go.ChangeAt Go.RowKit
open Go.ChangeMaps (open_string shut_string)

/-- The head of a round. -/
def FrRel (n : Nat) (w : World) (i : Value) (wr : World) : Prop := ∃ k : Nat, k ≤ n ∧ i = .int .i64 (k : Int) ∧ wr = w

set_option maxRecDepth 100000 in
set_option maxHeartbeats 3200000 in
theorem leastFront_walk (Aa : Option Addr) (na ca : Nat) (a : List Int) (Ab : Option Addr) (nb cb : Nat) (b : List Int) (Af : Option Addr) (nf cf : Nat) (f : List Int) (w : World) (ha : ArgI w Aa na ca a) (hb : ArgI w Ab nb cb b) (hf : ArgI w Af nf cf f) :
    Calls Try.prog 8 #[.slice Aa na ca, .slice Ab nb cb, .slice Af nf cf] w (Yes w) := by
  obtain ⟨hna, hca, hma, r_a, hnila, hwfa⟩ := ha
  have Ha := Lib.hid hna
  have Wa := Lib.hid hwfa
  clear hna hwfa
  unfold maxLen at hma
  obtain ⟨hnb, hcb, hmb, r_b, hnilb, hwfb⟩ := hb
  have Hb := Lib.hid hnb
  have Wb := Lib.hid hwfb
  clear hnb hwfb
  unfold maxLen at hmb
  obtain ⟨hnf, hcf, hmf, r_f, hnilf, hwff⟩ := hf
  have Hf := Lib.hid hnf
  have Wf := Lib.hid hwff
  clear hnf hwff
  unfold maxLen at hmf
  by_cases ga : na ≤ 20
  case neg =>
    go_enter Try.func8, Try.ntmps8
    go_wp2_with fail
    refine (awake9 _).mono ?_
    rintro e w1 ⟨rfl, hb1⟩
    go_wp2_with fail
    go_ret
    exact Yes.of hb1
  by_cases gb : nb ≤ 20
  case neg =>
    go_enter Try.func8, Try.ntmps8
    go_wp2_with fail
    refine (awake9 _).mono ?_
    rintro e w1 ⟨rfl, hb1⟩
    go_wp2_with fail
    go_ret
    exact Yes.of hb1
  by_cases gf : nf ≤ 20
  case neg =>
    go_enter Try.func8, Try.ntmps8
    go_wp2_with fail
    refine (awake9 _).mono ?_
    rintro e w1 ⟨rfl, hb1⟩
    go_wp2_with fail
    go_ret
    exact Yes.of hb1
  obtain ⟨i0, hi, hz0, hz1, hz2⟩ := info_parts Try.infoInt
  go_enter Try.func8, Try.ntmps8
  go_wp2_with fail
  refine (awake9 _).mono ?_
  rintro e w1 ⟨rfl, hb⟩
  have B := below_go (Below.refl _ _) hb
  replace r_a := r_a.below B
  replace r_b := r_b.below B
  replace r_f := r_f.below B
  have bb := B
  clear B hb
  have o0 := own_emptyS w1 3 1 (Nat.le_refl w1.heap.size)
  have B0 : Below w1.heap.size w1 (w1.alloc (.cells #[] 3)) := below_a1 _ _
  have q1 := r_f.below B0
  have hs0 := B0.size
  go_wp2_with (at_builtin; refine append_row rfl (.tmp 24) (.tmp 25) 24 rfl w1.heap.size 3 i0 (.int .i64 0) 8 Try.underlying24 hi hz0 hz1 hz2 rfl _ 0 _ rfl o0 Af nf cf (iv f) rfl (by rw [iv_length, Hf.out]) q1 hnilf (iv_one _) (by unfold maxLen; omega) (by omega) hs0 ?_)
  intro z1 y1 o1 g1
  have B1 : Below w1.heap.size w1 y1 := B0.grown g1 hs0 (fun x hx => (o0.lt x hx).1)
  have q2 := r_a.below B1
  have hs1 := B1.size
  clear o0 B0 q1 hs0 g1
  go_wp2_with (at_builtin; refine append_row rfl (.tmp 26) (.tmp 27) 24 rfl w1.heap.size 3 i0 (.int .i64 0) 8 Try.underlying24 hi hz0 hz1 hz2 rfl _ nf _ rfl o1 Aa na ca (iv a) rfl (by rw [iv_length, Ha.out]) q2 hnila (iv_one _) (by unfold maxLen; omega) (by omega) hs1 ?_)
  intro z2 y2 o2 g2
  have B2 : Below w1.heap.size w1 y2 := B1.grown g2 hs1 (fun x hx => (o1.lt x hx).1)
  have o3 : y2.ownsRow w1.heap.size 3 1 z2 (nf + na) (iv (f ++ a)) := by rw [iv_append]; exact o2
  replace bb := below_go bb B2
  replace r_a := r_a.below B2
  replace r_b := r_b.below B2
  replace r_f := r_f.below B2
  have Hu : Hid ((f ++ a).length = nf + na) := by show _ = _; rw [List.length_append, Hf.out, Ha.out]
  obtain ⟨V_u, c_u, rfl, hq_u, _, r_u, _⟩ := own_slice o3
  clear o1 o2 o3 g2 B1 B2 hs1 q2
  generalize hy2 : y2 = wu at *
  clear hy2
  have o0 := own_emptyS wu 3 1 (Nat.le_refl wu.heap.size)
  have B0 : Below wu.heap.size wu (wu.alloc (.cells #[] 3)) := below_a1 _ _
  have q1 := r_f.below B0
  have hs0 := B0.size
  go_wp2_with (at_builtin; refine append_row rfl (.tmp 29) (.tmp 30) 24 rfl wu.heap.size 3 i0 (.int .i64 0) 8 Try.underlying24 hi hz0 hz1 hz2 rfl _ 0 _ rfl o0 Af nf cf (iv f) rfl (by rw [iv_length, Hf.out]) q1 hnilf (iv_one _) (by unfold maxLen; omega) (by omega) hs0 ?_)
  intro z1 y1 o1 g1
  have B1 : Below wu.heap.size wu y1 := B0.grown g1 hs0 (fun x hx => (o0.lt x hx).1)
  have q2 := r_b.below B1
  have hs1 := B1.size
  clear o0 B0 q1 hs0 g1
  go_wp2_with (at_builtin; refine append_row rfl (.tmp 31) (.tmp 32) 24 rfl wu.heap.size 3 i0 (.int .i64 0) 8 Try.underlying24 hi hz0 hz1 hz2 rfl _ nf _ rfl o1 Ab nb cb (iv b) rfl (by rw [iv_length, Hb.out]) q2 hnilb (iv_one _) (by unfold maxLen; omega) (by omega) hs1 ?_)
  intro z2 y2 o2 g2
  have B2 : Below wu.heap.size wu y2 := B1.grown g2 hs1 (fun x hx => (o1.lt x hx).1)
  have o3 : y2.ownsRow wu.heap.size 3 1 z2 (nf + nb) (iv (f ++ b)) := by rw [iv_append]; exact o2
  replace bb := below_go bb B2
  replace r_a := r_a.below B2
  replace r_b := r_b.below B2
  replace r_f := r_f.below B2
  replace r_u := r_u.below B2
  have Hv : Hid ((f ++ b).length = nf + nb) := by show _ = _; rw [List.length_append, Hf.out, Hb.out]
  obtain ⟨V_v, c_v, rfl, hq_v, _, r_v, _⟩ := own_slice o3
  clear o1 o2 o3 g2 B1 B2 hs1 q2
  generalize hy2 : y2 = wv at *
  clear hy2
  have hM := lst_le a b
  rw [Ha.out] at hM
  obtain ⟨M, hMl⟩ : ∃ M, (lst a b).length = M := ⟨_, rfl⟩
  rw [hMl] at hM
  have HMl := Lib.hid hMl
  have HLst : Hid (lst (f ++ a) (f ++ b) = diag nf ++ sh nf nf (lst a b)) := by show _ = _; rw [lst_front, Hf.out]
  have HLen : Hid ((diag nf ++ sh nf nf (lst a b)).length = nf + M) := by show _ = _; rw [List.length_append, diag_length, sh_length, HMl.out]
  have HMv : Hid (moveP (lst a b) (nf : Int) (nf : Int) = sh nf nf (lst a b)) := move_sh (by rw [Ha.out]; omega) (by rw [Hb.out]; omega)
  have HSl : Hid ((sh nf nf (lst a b)).length = M) := by show _ = _; rw [sh_length, HMl.out]
  clear hMl
  go_wp2_with fail
  refine (lof_any _ _ (nf + na) (nf + nb) _ _ (f ++ a) (f ++ b) _ Hu.out Hv.out (by omega) (by omega) hq_u hq_v r_u r_v).mono ?_
  rintro e w2 ⟨v, rfl, hv, hb⟩
  have B := below_go (Below.refl _ _) hb
  replace r_a := r_a.below B
  replace r_b := r_b.below B
  replace r_f := r_f.below B
  replace r_u := r_u.below B
  replace r_v := r_v.below B
  replace bb := below_go bb B
  clear B hb
  obtain ⟨V_l, c_l, rfl, hq_l, _, r_l, _⟩ := own_sliceS hv
  clear hv
  rw [HLst.out] at r_l hq_l ⊢
  rw [HLen.out] at hq_l ⊢
  clear r_u
  clear r_v
  obtain ⟨C1, e1, s7, s8⟩ := slice_fromP V_l (nf + M) c_l nf (diag nf ++ sh nf nf (lst a b)) HLen.out hq_l (by omega)
  rw [show nf + M - nf = M by omega] at s7
  have r8 := s8 w2 r_l
  rw [diag_drop] at r8
  have OF := Lib.hid (lof_any Aa Ab na nb ca cb a b w2.drew Ha.out Hb.out (by omega) (by omega) hca hcb r_a.drew r_b.drew)
  have HG : Hid (∀ k, k < nf → ∃ g o, V_l = some ⟨g, o, none⟩ ∧ w2.cell? ⟨g, o + k * 2, none⟩ = some (.int .i64 (k : Int)) ∧ w2.cell? ⟨g, o + k * 2 + 1, none⟩ = some (.int .i64 (k : Int))) := fun k hk => by
    have hkl : k < (diag nf ++ sh nf nf (lst a b)).length := by rw [HLen.out]; omega
    obtain ⟨g, o, e, h1, h2⟩ := r_l.pair hkl
    have e2 : (diag nf ++ sh nf nf (lst a b))[k] = ((k : Int), (k : Int)) := by
      have := diag_get hk (sh nf nf (lst a b))
      rw [List.getElem?_eq_getElem hkl] at this
      exact Option.some.inj this
    rw [e2] at h1 h2
    exact ⟨g, o, e, h1, h2⟩
  have t1 : decide ((nf : Int) + (M : Int) < (nf : Int)) = false := by simp; omega
  have hmx : Try.prog.follows .mixedOrders = true := by kernel_rfl
  clear s8 r_l r_a r_b r_f
  go_wp2_with fail
  go_loopw [8] (fun i wr => FrRel nf w2 i wr) (fun i _ => nf - (intOf i).toNat)
  case atStart => exact ⟨0, Nat.zero_le _, rfl, rfl⟩
  case round =>
    obtain ⟨k, hk, rfl, rfl⟩ := hrel
    by_cases hlt : k < nf
    · obtain ⟨g, o, rfl, k1, k2⟩ := HG.out k hlt
      go_wp2_with fail
      go_roundw
      case rel => exact ⟨k + 1, hlt, by go_num, rfl⟩
      case measure => simp [intOf]; omega
    · obtain rfl : k = nf := by omega
      clear HG
      go_wp2_with fail
      refine wp_region_held (S := AnyW) hmx ?_
      refine wpAnyH_take (i := 0) (v := ?v74) rfl (by kernel_rfl) (by kernel_rfl) (by kernel_rfl) (fun _ _ _ h => h) (.inl ⟨by kernel_rfl, ?y74⟩) (anyW _) ?_
      case y74 =>
        rintro w' -
        go_simp
        first | done | with_reducible rfl | rfl
      try simp only [Act.put]
      refine wpAnyH_take (i := 1) (v := ?v75) rfl (by kernel_rfl) (by kernel_rfl) (by kernel_rfl) (fun _ _ _ h => h) (.inl ⟨by kernel_rfl, ?y75⟩) (anyW _) ?_
      case y75 =>
        rintro w' -
        go_simp
        first | done | with_reducible rfl | rfl
      try simp only [Act.put]
      refine wpAnyH_take (i := 2) (v := ?v76) rfl (by kernel_rfl) (by kernel_rfl) (by kernel_rfl) (fun _ _ _ h => h) (.inl ⟨by kernel_rfl, ?y76⟩) (anyW _) ?_
      case y76 =>
        rintro w' -
        go_simp
        first | done | with_reducible rfl | rfl
      try simp only [Act.put]
      refine wpAnyH_take (i := 3) (v := ?v77) rfl (by kernel_rfl) (by kernel_rfl) (by kernel_rfl) (fun _ _ _ h => h) (.inl ⟨by kernel_rfl, ?y77⟩) (anyW _) ?_
      case y77 =>
        rintro w' -
        go_simp
        first | done | with_reducible rfl | rfl
      try simp only [Act.put]
      refine wpAnyH_take (i := 4) (v := ?v78) rfl (by kernel_rfl) (by kernel_rfl) (by kernel_rfl) (fun _ _ _ h => h) (.inl ⟨by kernel_rfl, ?y78⟩) (anyW _) ?_
      case y78 =>
        rintro w' -
        go_simp
        first | done | with_reducible rfl | rfl
      try simp only [Act.put]
      refine wpAnyH_take (i := 5) (v := ?v79) rfl (by kernel_rfl) (by kernel_rfl) (by kernel_rfl) (fun _ _ _ h => h) (.inl ⟨by kernel_rfl, ?y79⟩) (anyW _) ?_
      case y79 =>
        rintro w' -
        go_simp
        first | done | with_reducible rfl | rfl
      try simp only [Act.put]
      refine wpAnyH_take (i := 7) (v := ?v80) rfl (by kernel_rfl) (by kernel_rfl) (by kernel_rfl) (fun _ _ _ h => h) (.inl ⟨by kernel_rfl, ?y80⟩) (anyW _) ?_
      case y80 =>
        rintro w' -
        go_simp
        first | done | with_reducible rfl | rfl
      try simp only [Act.put]
      refine wpAnyH_take (i := 8) (v := ?v81) rfl (by kernel_rfl) (by kernel_rfl) (by kernel_rfl) (fun _ _ _ h => h) (.inl ⟨by kernel_rfl, ?y81⟩) (anyW _) ?_
      case y81 =>
        rintro w' -
        go_simp
        first | done | with_reducible rfl | rfl
      try simp only [Act.put]
      refine wpAnyH_take (i := 9) (v := ?v82) rfl (by kernel_rfl) (by kernel_rfl) (by kernel_rfl) (fun _ _ _ h => h) (.inl ⟨by kernel_rfl, ?y82⟩) (anyW _) ?_
      case y82 =>
        rintro w' -
        go_simp
        first | done | with_reducible rfl | rfl
      try simp only [Act.put]
      refine wpAnyH_take (i := 10) (v := ?v83) rfl (by kernel_rfl) (by kernel_rfl) (by kernel_rfl) (fun _ _ _ h => h) (.inl ⟨by kernel_rfl, ?y83⟩) (anyW _) ?_
      case y83 =>
        rintro w' -
        go_simp
        first | done | with_reducible rfl | rfl
      try simp only [Act.put]
      refine held_one (i := 6) (by kernel_rfl) rfl (by rfl) ?_
      unfold Oper.wp
      go_simp
      refine (OF.out).mono ?_
      rintro e w5 ⟨v, rfl, hv, hb5⟩
      rw [HMl.out] at hv
      obtain ⟨V4, c4, rfl, _, _, r4, _⟩ := own_sliceS hv
      have r9 := Row.below (w := wr.drew) r8 hb5
      have bb5 := Lib.hid (below_go bb.drew hb5)
      clear hb5 hv r8 OF
      refine ⟨(anyW _), ?_⟩
      try simp only [Act.put]
      refine held_one (i := 11) (by kernel_rfl) rfl (by rfl) ?_
      unfold Oper.wp
      go_simp
      refine (refMove V4 M c4 (lst a b) (k : Int) (k : Int) w5 HMl.out (by omega) r4).mono ?_
      rintro e w6 ⟨v, rfl, hv, hb6⟩
      rw [HMv.out, HSl.out] at hv
      obtain ⟨V6, c6, rfl, _, _, r6, _⟩ := own_sliceS hv
      have r10 := r9.below hb6
      have bb6 := Lib.hid (below_go bb5.out hb6)
      clear hb6 hv bb5 r9 r4
      refine ⟨(anyW _), ?_⟩
      try simp only [Act.put]
      refine held_one (i := 12) (by kernel_rfl) rfl (by rfl) ?_
      unfold Oper.wp
      go_simp
      refine (samePairs_any C1 V6 M M e1 c6 _ _ w6 HSl.out HSl.out (by omega) r10 r6).mono ?_
      rintro e w7 ⟨rfl, q, hq⟩
      rw [show decide (sh k k (lst a b) = sh k k (lst a b)) = true by simp]
      have bb7 := Lib.hid (below_drawn hq bb6.out)
      clear hq bb6 r10 r6
      refine ⟨(anyW _), ?_⟩
      try simp only [Act.put]
      refine wpAnyH_take (i := 13) (v := ?v84) rfl (by kernel_rfl) (by kernel_rfl) (by kernel_rfl) (fun _ _ _ h => h) (.inl ⟨by kernel_rfl, ?y84⟩) (anyW _) ?_
      case y84 =>
        rintro w' -
        go_simp
        first | done | with_reducible rfl | rfl
      try simp only [Act.put]
      refine held_done (by kernel_rfl) ?_
      go_simp
      go_wp2_with fail
      go_ret
      exact Yes.of bb7.out

/-! ### The row's step -/
theorem own : ownKnob Try.prog.godebug = none := by kernel_rfl
theorem laidOut : laidOutB Try.prog = true := by kernel_rfl

theorem contract (H : Type) (enc : TypeId × Value → H) (W : World) (base : Nat) (args : Array Value) (ds gs : List (DataW H)) (before : List MemPlace)
    (hval : ∀ (j : Nat) t v, Try.f8.params[j]? = some t → args[j]? = some v → Value.okWide Try.prog W .any base t v)
    (hW : DataW.Whole enc Try.prog Try.f8.params.toList Rows.leastFrontSpec.vars false W args.toList ds gs before) :
    Calls Try.prog 8 args W fun e W' => ∃ v, e = .returned v ∧ Rows.leastFrontSpec.post enc Try.prog Try.f8 false true false false W args v W' := by
  have hW' := hW
  obtain ⟨p, q, hA0, hV, rfl, hfz, hnd⟩ := hW
  have hA : DataW.TrodAll enc Try.prog W 0 (fun _ => true) true Try.f8.params.toList args.toList ds p := hA0
  rw [Try.params8] at hA hval
  obtain ⟨v0, vs0, d0, ds0, p0, q0, hargs, rfl, rfl, h0, r0⟩ := trodAll_cons hA
  obtain ⟨v1, vs1, d1, ds1, p1, q1, rfl, rfl, rfl, h1, r1⟩ := trodAll_cons r0
  obtain ⟨v2, vs2, d2, ds2, p2, q2, rfl, rfl, rfl, h2, r2⟩ := trodAll_cons r1
  obtain ⟨rfl, rfl, rfl⟩ := trodAll_nil r2
  obtain rfl : args = #[v0, v1, v2] := by cases args; simp_all
  obtain ⟨rfl, rfl⟩ := trodVars_none hV
  have k0 := h0
  have lt0 : ∀ x ∈ p0, x.block < W.heap.size := by obtain ⟨m, hm⟩ := k0; exact DataW.trod_lt m _ _ _ hm
  obtain ⟨A0, n0, c0, e0⟩ := okWide_slice Try.underlying24 (hval 0 24 v0 rfl rfl)
  subst e0
  obtain ⟨l0, w0⟩ := open_argI Try.underlying24 Try.underlying3 (by kernel_rfl) h0
  have k1 := h1
  have lt1 : ∀ x ∈ p1, x.block < W.heap.size := by obtain ⟨m, hm⟩ := k1; exact DataW.trod_lt m _ _ _ hm
  obtain ⟨A1, n1, c1, e1⟩ := okWide_slice Try.underlying24 (hval 1 24 v1 rfl rfl)
  subst e1
  obtain ⟨l1, w1⟩ := open_argI Try.underlying24 Try.underlying3 (by kernel_rfl) h1
  have k2 := h2
  have lt2 : ∀ x ∈ p2, x.block < W.heap.size := by obtain ⟨m, hm⟩ := k2; exact DataW.trod_lt m _ _ _ hm
  obtain ⟨A2, n2, c2, e2⟩ := okWide_slice Try.underlying24 (hval 2 24 v2 rfl rfl)
  subst e2
  obtain ⟨l2, w2⟩ := open_argI Try.underlying24 Try.underlying3 (by kernel_rfl) h2
  clear hA0
  refine (leastFront_walk A0 n0 c0 l0 A1 n1 c1 l1 A2 n2 c2 l2 W w0 w1 w2).mono fun e W' ⟨he, bel⟩ => ?_
  subst he
  exact ⟨_, rfl, _, _, _, [], _, [], hW', trodAll_mk1 (shut_bool Try.underlying4 _), (trodAll_cons_mk (Below.trod laidOut (by kernel_rfl) (of_decide_eq_true (by kernel_rfl)) k0 bel lt0) (trodAll_cons_mk (Below.trod laidOut (by kernel_rfl) (of_decide_eq_true (by kernel_rfl)) k1 bel lt1) (trodAll_cons_mk (Below.trod laidOut (by kernel_rfl) (of_decide_eq_true (by kernel_rfl)) k2 bel lt2) trodAll_mk0))), rfl, bel.frame _, fun h => by cases h⟩

set_option maxRecDepth 100000 in
theorem lifted (os : Os) (started : os.Started) (H : Type) (enc : TypeId × Value → H) :
    ReturnsInHanded {} Try.checked os 8 .any (Rows.leastFrontSpec.pre6 enc Try.prog Try.f8 Rows.leastFrontRow.domain false) (Rows.leastFrontSpec.post enc Try.prog Try.f8 false true false false) := by
  refine returnsInHanded_of_change (C := Try.checked) own started (by kernel_rfl) Try.func8
    (ChangeSpec.witness6 (enc := enc) (C := Try.checked) false ⟨#[], #[.slice none 0 0, .slice none 0 0, .slice none 0 0], []⟩ 8 (by kernel_rfl) (by kernel_rfl) (by kernel_rfl) (by kernel_rfl)) ?_
  intro W base args ds gs before hval hW _ _
  exact contract H enc W base args ds gs before hval hW

/-- The statement. -/
theorem proved : Rows.LeastFrontSaid :=
  OpenClaim.holds_of_wide 8 Try.f8 rfl rfl rfl rfl rfl rfl rfl ⟨rfl, rfl, rfl, rfl, rfl⟩ rfl rfl rfl rfl rfl (by kernel_rfl) Try.func8 (by kernel_rfl)
    (of_decide_eq_true (by kernel_rfl)) (by unfold Func.isWrapper; first | (rw [if_pos (by decide +kernel)]; kernel_rfl) | (rw [if_neg (by decide +kernel)]; exact ⟨rfl, rfl⟩))
    (fun os started H enc _ => lifted os started H enc)

end Go.Proofs.Ytobijkjonnoeiaa.leastFrontP
