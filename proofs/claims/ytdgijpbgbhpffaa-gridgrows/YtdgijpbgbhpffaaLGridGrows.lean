/-
  Proved: for every input tattinglaw8.GridGrows returns true, and its arguments read afterwards as before.
-/
import Derived.Test.YtdgijpbgbhpffaaAwake8
import Derived.Test.YtdgijpbgbhpffaaArgsI
import Derived.Test.YtdgijpbgbhpffaaFew
namespace Go.Proofs.Ytdgijpbgbhpffaa.gridGrowsP
open Go.ChangeShapes Go.WideShapes Go.ChangeAt Go.RowKit
open Go.ChangeMaps (open_string shut_string)

set_option maxRecDepth 100000 in
set_option maxHeartbeats 1600000 in
theorem gridGrows_walk (Aa : Option Addr) (na ca : Nat) (a : List Int) (Ab : Option Addr) (nb cb : Nat) (b : List Int) (c : Int) (front : Bool) (w : World) (ha : ArgI w Aa na ca a) (hb : ArgI w Ab nb cb b) (hc : (Lit.int .i64 c).wf = true) :
    Calls Try.prog 9 #[.slice Aa na ca, .slice Ab nb cb, .int .i64 c, .bool front] w (Yes w) := by
  obtain ⟨hna, hca, hma, r_a, hnila, hwfa⟩ := ha
  have Ha := Lib.hid hna
  have Wa := Lib.hid hwfa
  clear hna hwfa
  unfold maxLen at hma
  obtain ⟨hnb, hcb, hmb, r_b, hnilb, hwfb⟩ := hb
  have Hb := Lib.hid hnb
  have Wb := Lib.hid hwfb
  clear hnb hwfb
  unfold maxLen at hmb
  have Wc : Hid (I64 c) := bounds_i64 hc
  clear hc
  by_cases ga : na ≤ 40
  case neg =>
    go_enter Try.func9, Try.ntmps9
    go_wp2_with fail
    refine (awake8 _).mono ?_
    rintro e w1 ⟨rfl, hb1⟩
    go_wp2_with fail
    go_ret
    exact Yes.of hb1
  by_cases gb : nb ≤ 40
  case neg =>
    go_enter Try.func9, Try.ntmps9
    go_wp2_with fail
    refine (awake8 _).mono ?_
    rintro e w1 ⟨rfl, hb1⟩
    go_wp2_with fail
    go_ret
    exact Yes.of hb1
  obtain ⟨i0, hi, hz0, hz1, hz2⟩ := info_parts Try.infoInt
  go_enter Try.func9, Try.ntmps9
  go_wp2_with fail
  refine (awake8 _).mono ?_
  rintro e w1 ⟨rfl, hb⟩
  have B := below_go (Below.refl _ _) hb
  replace r_a := r_a.below B
  replace r_b := r_b.below B
  have bb := B
  clear B hb
  go_wp2_with fail
  refine (few_any _ na _ a 4 _ Ha.out (by omega) (by decide) (by decide) r_a).mono ?_
  rintro e w2 ⟨v, rfl, hv, hb⟩
  have B := below_go (Below.refl _ _) hb
  replace r_a := r_a.below B
  replace r_b := r_b.below B
  replace bb := below_go bb B
  clear B hb
  have Hx : Hid ((few 4 a).length = na) := by show _ = _; rw [few_length, Ha.out]
  rw [Hx.out] at hv
  obtain ⟨V_x, c_x, rfl, hq_x, hm_x, r_x, hnil_x⟩ := own_slice hv
  clear hv
  generalize few 4 a = x at *
  clear r_a
  go_wp2_with fail
  refine (few_any _ nb _ b 4 _ Hb.out (by omega) (by decide) (by decide) r_b).mono ?_
  rintro e w3 ⟨v, rfl, hv, hb⟩
  have B := below_go (Below.refl _ _) hb
  replace r_b := r_b.below B
  replace r_x := r_x.below B
  replace bb := below_go bb B
  clear B hb
  have Hy : Hid ((few 4 b).length = nb) := by show _ = _; rw [few_length, Hb.out]
  rw [Hy.out] at hv
  obtain ⟨V_y, c_y, rfl, hq_y, hm_y, r_y, hnil_y⟩ := own_slice hv
  clear hv
  generalize few 4 b = y at *
  clear r_b
  go_wp2_with fail
  refine (few_any _ 1 _ [c] 4 _ rfl (by omega) (by decide) (by decide) (row_lit (iv [c]) 3 (by simp))).mono ?_
  rintro e w4 ⟨v, rfl, hv, hb⟩
  have B := below_go (below_al (Below.refl _ _) _) hb
  replace r_x := r_x.below B
  replace r_y := r_y.below B
  replace bb := below_go bb B
  clear B hb
  have Hz : Hid ((few 4 [c]).length = 1) := by show _ = _; rw [few_length]; rfl
  rw [Hz.out] at hv
  obtain ⟨V_z, c_z, rfl, hq_z, hm_z, r_z, hnil_z⟩ := own_slice hv
  clear hv
  obtain ⟨c0, hc0⟩ : ∃ c0, few 4 [c] = [c0] := ⟨_, rfl⟩
  rw [hc0] at Hz r_z
  clear hc0
  have o0 := own_emptyS w4 3 1 (Nat.le_refl w4.heap.size)
  have B0 : Below w4.heap.size w4 (w4.alloc (.cells #[] 3)) := below_a1 _ _
  have q1 := r_x.below B0
  have hs0 := B0.size
  go_wp2_with (at_builtin; refine append_row rfl (.tmp 33) (.tmp 34) 25 rfl w4.heap.size 3 i0 (.int .i64 0) 8 Try.underlying25 hi hz0 hz1 hz2 rfl _ 0 _ rfl o0 V_x na c_x (iv x) rfl (by rw [iv_length, Hx.out]) q1 hnil_x (iv_one _) (by unfold maxLen; omega) (by omega) hs0 ?_)
  intro z1 y1 o1 g1
  have B1 : Below w4.heap.size w4 y1 := B0.grown g1 hs0 (fun x hx => (o0.lt x hx).1)
  have q2 := r_z.below B1
  have hs1 := B1.size
  clear o0 B0 q1 hs0 g1
  go_wp2_with (at_builtin; refine append_row rfl (.tmp 35) (.tmp 36) 25 rfl w4.heap.size 3 i0 (.int .i64 0) 8 Try.underlying25 hi hz0 hz1 hz2 rfl _ na _ rfl o1 V_z 1 c_z (iv [c0]) rfl (by rw [iv_length, Hz.out]) q2 hnil_z (iv_one _) (by unfold maxLen; omega) (by omega) hs1 ?_)
  intro z2 y2 o2 g2
  have B2 : Below w4.heap.size w4 y2 := B1.grown g2 hs1 (fun x hx => (o1.lt x hx).1)
  have o3 : y2.ownsRow w4.heap.size 3 1 z2 (na + 1) (iv (x ++ [c0])) := by rw [iv_append]; exact o2
  replace bb := below_go bb B2
  replace r_x := r_x.below B2
  replace r_y := r_y.below B2
  replace r_z := r_z.below B2
  have Hu : Hid ((x ++ [c0]).length = na + 1) := by show _ = _; rw [List.length_append, Hx.out, Hz.out]
  obtain ⟨V_u, c_u, rfl, _, _, r_u, _⟩ := own_slice o3
  clear o1 o2 o3 g2 B1 B2 hs1 q2
  generalize hy2 : y2 = wu at *
  clear hy2
  have o0 := own_emptyS wu 3 1 (Nat.le_refl wu.heap.size)
  have B0 : Below wu.heap.size wu (wu.alloc (.cells #[] 3)) := below_a1 _ _
  have q1 := r_y.below B0
  have hs0 := B0.size
  go_wp2_with (at_builtin; refine append_row rfl (.tmp 38) (.tmp 39) 25 rfl wu.heap.size 3 i0 (.int .i64 0) 8 Try.underlying25 hi hz0 hz1 hz2 rfl _ 0 _ rfl o0 V_y nb c_y (iv y) rfl (by rw [iv_length, Hy.out]) q1 hnil_y (iv_one _) (by unfold maxLen; omega) (by omega) hs0 ?_)
  intro z1 y1 o1 g1
  have B1 : Below wu.heap.size wu y1 := B0.grown g1 hs0 (fun x hx => (o0.lt x hx).1)
  have q2 := r_z.below B1
  have hs1 := B1.size
  clear o0 B0 q1 hs0 g1
  go_wp2_with (at_builtin; refine append_row rfl (.tmp 40) (.tmp 41) 25 rfl wu.heap.size 3 i0 (.int .i64 0) 8 Try.underlying25 hi hz0 hz1 hz2 rfl _ nb _ rfl o1 V_z 1 c_z (iv [c0]) rfl (by rw [iv_length, Hz.out]) q2 hnil_z (iv_one _) (by unfold maxLen; omega) (by omega) hs1 ?_)
  intro z2 y2 o2 g2
  have B2 : Below wu.heap.size wu y2 := B1.grown g2 hs1 (fun x hx => (o1.lt x hx).1)
  have o3 : y2.ownsRow wu.heap.size 3 1 z2 (nb + 1) (iv (y ++ [c0])) := by rw [iv_append]; exact o2
  replace bb := below_go bb B2
  replace r_x := r_x.below B2
  replace r_y := r_y.below B2
  replace r_z := r_z.below B2
  replace r_u := r_u.below B2
  have Hv : Hid ((y ++ [c0]).length = nb + 1) := by show _ = _; rw [List.length_append, Hy.out, Hz.out]
  obtain ⟨V_v, c_v, rfl, _, _, r_v, _⟩ := own_slice o3
  clear o1 o2 o3 g2 B1 B2 hs1 q2
  generalize hy2 : y2 = wv at *
  clear hy2
  cases front
  · obtain ⟨g1, g2, g3⟩ := lcs_grow_back x y c0
    have G3 := Lib.hid g3
    clear g3
    go_wp2_with fail
    refine (plen_any _ _ na nb _ _ x y _ Hx.out Hy.out (by omega) (by omega) r_x r_y).mono ?_
    rintro e w5 ⟨rfl, hb⟩
    have B := below_go (Below.refl _ _) hb
    replace r_x := r_x.below B
    replace r_y := r_y.below B
    replace r_z := r_z.below B
    replace r_u := r_u.below B
    replace r_v := r_v.below B
    replace bb := below_go bb B
    clear B hb
    go_wp2_with fail
    refine (plen_any _ _ (na + 1) nb _ _ (x ++ [c0]) y _ Hu.out Hy.out (by omega) (by omega) r_u r_y).mono ?_
    rintro e w6 ⟨rfl, hb⟩
    have B := below_go (Below.refl _ _) hb
    replace r_x := r_x.below B
    replace r_y := r_y.below B
    replace r_z := r_z.below B
    replace r_u := r_u.below B
    replace r_v := r_v.below B
    replace bb := below_go bb B
    clear B hb
    have hL0 := lcs_le_left x y
    rw [Hx.out] at hL0
    generalize hL : lcs x y = L at *
    generalize lcs (x ++ [c0]) y = M at *
    go_wp2_with fail
    refine (plen_any _ _ (na + 1) (nb + 1) _ _ (x ++ [c0]) (y ++ [c0]) _ Hu.out Hv.out (by omega) (by omega) r_u r_v).mono ?_
    rintro e w7 ⟨rfl, hb⟩
    have B := below_go (Below.refl _ _) hb
    replace r_x := r_x.below B
    replace r_y := r_y.below B
    replace r_z := r_z.below B
    replace r_u := r_u.below B
    replace r_v := r_v.below B
    replace bb := below_go bb B
    clear B hb
    rw [G3.out]
    go_wp2_with fail
    go_ret
    exact Yes.of bb
  · clear r_u
    clear r_v
    have o0 := own_emptyS wv 3 1 (Nat.le_refl wv.heap.size)
    have B0 : Below wv.heap.size wv (wv.alloc (.cells #[] 3)) := below_a1 _ _
    have q1 := r_z.below B0
    have hs0 := B0.size
    go_wp2_with (at_builtin; refine append_row rfl (.tmp 44) (.tmp 45) 25 rfl wv.heap.size 3 i0 (.int .i64 0) 8 Try.underlying25 hi hz0 hz1 hz2 rfl _ 0 _ rfl o0 V_z 1 c_z (iv [c0]) rfl (by rw [iv_length, Hz.out]) q1 hnil_z (iv_one _) (by unfold maxLen; omega) (by omega) hs0 ?_)
    intro z1 y1 o1 g1
    have B1 : Below wv.heap.size wv y1 := B0.grown g1 hs0 (fun x hx => (o0.lt x hx).1)
    have q2 := r_x.below B1
    have hs1 := B1.size
    clear o0 B0 q1 hs0 g1
    go_wp2_with (at_builtin; refine append_row rfl (.tmp 46) (.tmp 47) 25 rfl wv.heap.size 3 i0 (.int .i64 0) 8 Try.underlying25 hi hz0 hz1 hz2 rfl _ 1 _ rfl o1 V_x na c_x (iv x) rfl (by rw [iv_length, Hx.out]) q2 hnil_x (iv_one _) (by unfold maxLen; omega) (by omega) hs1 ?_)
    intro z2 y2 o2 g2
    have B2 : Below wv.heap.size wv y2 := B1.grown g2 hs1 (fun x hx => (o1.lt x hx).1)
    have o3 : y2.ownsRow wv.heap.size 3 1 z2 (1 + na) (iv ([c0] ++ x)) := by rw [iv_append]; exact o2
    replace bb := below_go bb B2
    replace r_x := r_x.below B2
    replace r_y := r_y.below B2
    replace r_z := r_z.below B2
    have Hs : Hid (([c0] ++ x).length = 1 + na) := by show _ = _; rw [List.length_append, Hz.out, Hx.out]
    obtain ⟨V_s, c_s, rfl, _, _, r_s, _⟩ := own_slice o3
    clear o1 o2 o3 g2 B1 B2 hs1 q2
    generalize hy2 : y2 = ws at *
    clear hy2
    have o0 := own_emptyS ws 3 1 (Nat.le_refl ws.heap.size)
    have B0 : Below ws.heap.size ws (ws.alloc (.cells #[] 3)) := below_a1 _ _
    have q1 := r_z.below B0
    have hs0 := B0.size
    go_wp2_with (at_builtin; refine append_row rfl (.tmp 49) (.tmp 50) 25 rfl ws.heap.size 3 i0 (.int .i64 0) 8 Try.underlying25 hi hz0 hz1 hz2 rfl _ 0 _ rfl o0 V_z 1 c_z (iv [c0]) rfl (by rw [iv_length, Hz.out]) q1 hnil_z (iv_one _) (by unfold maxLen; omega) (by omega) hs0 ?_)
    intro z1 y1 o1 g1
    have B1 : Below ws.heap.size ws y1 := B0.grown g1 hs0 (fun x hx => (o0.lt x hx).1)
    have q2 := r_y.below B1
    have hs1 := B1.size
    clear o0 B0 q1 hs0 g1
    go_wp2_with (at_builtin; refine append_row rfl (.tmp 51) (.tmp 52) 25 rfl ws.heap.size 3 i0 (.int .i64 0) 8 Try.underlying25 hi hz0 hz1 hz2 rfl _ 1 _ rfl o1 V_y nb c_y (iv y) rfl (by rw [iv_length, Hy.out]) q2 hnil_y (iv_one _) (by unfold maxLen; omega) (by omega) hs1 ?_)
    intro z2 y2 o2 g2
    have B2 : Below ws.heap.size ws y2 := B1.grown g2 hs1 (fun x hx => (o1.lt x hx).1)
    have o3 : y2.ownsRow ws.heap.size 3 1 z2 (1 + nb) (iv ([c0] ++ y)) := by rw [iv_append]; exact o2
    replace bb := below_go bb B2
    replace r_x := r_x.below B2
    replace r_y := r_y.below B2
    replace r_z := r_z.below B2
    replace r_s := r_s.below B2
    have Ht : Hid (([c0] ++ y).length = 1 + nb) := by show _ = _; rw [List.length_append, Hz.out, Hy.out]
    obtain ⟨V_t, c_t, rfl, _, _, r_t, _⟩ := own_slice o3
    clear o1 o2 o3 g2 B1 B2 hs1 q2
    generalize hy2 : y2 = wt at *
    clear hy2
    obtain ⟨g1, g2, g3⟩ := lcs_grow_front x y c0
    have G3 := Lib.hid g3
    clear g3
    go_wp2_with fail
    refine (plen_any _ _ na nb _ _ x y _ Hx.out Hy.out (by omega) (by omega) r_x r_y).mono ?_
    rintro e w5 ⟨rfl, hb⟩
    have B := below_go (Below.refl _ _) hb
    replace r_x := r_x.below B
    replace r_y := r_y.below B
    replace r_z := r_z.below B
    replace r_s := r_s.below B
    replace r_t := r_t.below B
    replace bb := below_go bb B
    clear B hb
    go_wp2_with fail
    refine (plen_any _ _ (1 + na) nb _ _ ([c0] ++ x) y _ Hs.out Hy.out (by omega) (by omega) r_s r_y).mono ?_
    rintro e w6 ⟨rfl, hb⟩
    have B := below_go (Below.refl _ _) hb
    replace r_x := r_x.below B
    replace r_y := r_y.below B
    replace r_z := r_z.below B
    replace r_s := r_s.below B
    replace r_t := r_t.below B
    replace bb := below_go bb B
    clear B hb
    have hL0 := lcs_le_left x y
    rw [Hx.out] at hL0
    generalize hL : lcs x y = L at *
    generalize lcs ([c0] ++ x) y = M at *
    go_wp2_with fail
    refine (plen_any _ _ (1 + na) (1 + nb) _ _ ([c0] ++ x) ([c0] ++ y) _ Hs.out Ht.out (by omega) (by omega) r_s r_t).mono ?_
    rintro e w7 ⟨rfl, hb⟩
    have B := below_go (Below.refl _ _) hb
    replace r_x := r_x.below B
    replace r_y := r_y.below B
    replace r_z := r_z.below B
    replace r_s := r_s.below B
    replace r_t := r_t.below B
    replace bb := below_go bb B
    clear B hb
    rw [G3.out]
    go_wp2_with fail
    go_ret
    exact Yes.of bb

/-! ### The row's step -/
theorem own : ownKnob Try.prog.godebug = none := by kernel_rfl
theorem laidOut : laidOutB Try.prog = true := by kernel_rfl

theorem contract (H : Type) (enc : TypeId × Value → H) (W : World) (base : Nat) (args : Array Value) (ds gs : List (DataW H)) (before : List MemPlace)
    (hval : ∀ (j : Nat) t v, Try.f9.params[j]? = some t → args[j]? = some v → Value.okWide Try.prog W .any base t v)
    (hW : DataW.Whole enc Try.prog Try.f9.params.toList Rows.gridGrowsSpec.vars false W args.toList ds gs before) :
    Calls Try.prog 9 args W fun e W' => ∃ v, e = .returned v ∧ Rows.gridGrowsSpec.post enc Try.prog Try.f9 false true false false W args v W' := by
  have hW' := hW
  obtain ⟨p, q, hA0, hV, rfl, hfz, hnd⟩ := hW
  have hA : DataW.TrodAll enc Try.prog W 0 (fun _ => true) true Try.f9.params.toList args.toList ds p := hA0
  rw [Try.params9] at hA hval
  obtain ⟨v0, vs0, d0, ds0, p0, q0, hargs, rfl, rfl, h0, r0⟩ := trodAll_cons hA
  obtain ⟨v1, vs1, d1, ds1, p1, q1, rfl, rfl, rfl, h1, r1⟩ := trodAll_cons r0
  obtain ⟨v2, vs2, d2, ds2, p2, q2, rfl, rfl, rfl, h2, r2⟩ := trodAll_cons r1
  obtain ⟨v3, vs3, d3, ds3, p3, q3, rfl, rfl, rfl, h3, r3⟩ := trodAll_cons r2
  obtain ⟨rfl, rfl, rfl⟩ := trodAll_nil r3
  obtain rfl : args = #[v0, v1, v2, v3] := by cases args; simp_all
  obtain ⟨rfl, rfl⟩ := trodVars_none hV
  have k0 := h0
  have lt0 : ∀ x ∈ p0, x.block < W.heap.size := by obtain ⟨m, hm⟩ := k0; exact DataW.trod_lt m _ _ _ hm
  obtain ⟨A0, n0, c0, e0⟩ := okWide_slice Try.underlying25 (hval 0 25 v0 rfl rfl)
  subst e0
  obtain ⟨l0, w0⟩ := open_argI Try.underlying25 Try.underlying3 (by kernel_rfl) h0
  have k1 := h1
  have lt1 : ∀ x ∈ p1, x.block < W.heap.size := by obtain ⟨m, hm⟩ := k1; exact DataW.trod_lt m _ _ _ hm
  obtain ⟨A1, n1, c1, e1⟩ := okWide_slice Try.underlying25 (hval 1 25 v1 rfl rfl)
  subst e1
  obtain ⟨l1, w1⟩ := open_argI Try.underlying25 Try.underlying3 (by kernel_rfl) h1
  have k2 := h2
  have lt2 : ∀ x ∈ p2, x.block < W.heap.size := by obtain ⟨m, hm⟩ := k2; exact DataW.trod_lt m _ _ _ hm
  obtain ⟨a2, e2, _, _, w2⟩ := open_int Try.underlying3 (hval 2 3 v2 rfl rfl) h2
  subst e2
  have k3 := h3
  have lt3 : ∀ x ∈ p3, x.block < W.heap.size := by obtain ⟨m, hm⟩ := k3; exact DataW.trod_lt m _ _ _ hm
  obtain ⟨a3, e3, _, _⟩ := open_bool Try.underlying4 (hval 3 4 v3 rfl rfl) h3
  subst e3
  clear hA0
  refine (gridGrows_walk A0 n0 c0 l0 A1 n1 c1 l1 a2 a3 W w0 w1 w2).mono fun e W' ⟨he, bel⟩ => ?_
  subst he
  exact ⟨_, rfl, _, _, _, [], _, [], hW', trodAll_mk1 (shut_bool Try.underlying4 _), (trodAll_cons_mk (Below.trod laidOut (by kernel_rfl) (of_decide_eq_true (by kernel_rfl)) k0 bel lt0) (trodAll_cons_mk (Below.trod laidOut (by kernel_rfl) (of_decide_eq_true (by kernel_rfl)) k1 bel lt1) (trodAll_cons_mk (Below.trod laidOut (by kernel_rfl) (of_decide_eq_true (by kernel_rfl)) k2 bel lt2) (trodAll_cons_mk (Below.trod laidOut (by kernel_rfl) (of_decide_eq_true (by kernel_rfl)) k3 bel lt3) trodAll_mk0)))), rfl, bel.frame _, fun h => by cases h⟩

set_option maxRecDepth 100000 in
theorem lifted (os : Os) (started : os.Started) (H : Type) (enc : TypeId × Value → H) :
    ReturnsInHanded {} Try.checked os 9 .any (Rows.gridGrowsSpec.pre6 enc Try.prog Try.f9 Rows.gridGrowsRow.domain false) (Rows.gridGrowsSpec.post enc Try.prog Try.f9 false true false false) := by
  refine returnsInHanded_of_change (C := Try.checked) own started (by kernel_rfl) Try.func9
    (ChangeSpec.witness6 (enc := enc) (C := Try.checked) false ⟨#[], #[.slice none 0 0, .slice none 0 0, .int .i64 0, .bool false], []⟩ 8 (by kernel_rfl) (by kernel_rfl) (by kernel_rfl) (by kernel_rfl)) ?_
  intro W base args ds gs before hval hW _ _
  exact contract H enc W base args ds gs before hval hW

/-- The statement. -/
theorem proved : Rows.GridGrowsSaid :=
  OpenClaim.holds_of_wide 9 Try.f9 rfl rfl rfl rfl rfl rfl rfl ⟨rfl, rfl, rfl, rfl, rfl⟩ rfl rfl rfl rfl rfl (by kernel_rfl) Try.func9 (by kernel_rfl)
    (of_decide_eq_true (by kernel_rfl)) (by unfold Func.isWrapper; first | (rw [if_pos (by decide +kernel)]; kernel_rfl) | (rw [if_neg (by decide +kernel)]; exact ⟨rfl, rfl⟩))
    (fun os started H enc _ => lifted os started H enc)

end Go.Proofs.Ytdgijpbgbhpffaa.gridGrowsP
