/-
  Proved: tattinglaw7.PairsKnown returns true.
-/
import Derived.Test.YtlinkhffkgahpaaAwake7
import Derived.Test.YtlinkhffkgahpaaArgs
namespace Go.Proofs.Ytlinkhffkgahpaa.pairsKnownP
open Go.ChangeShapes Go.WideShapes Go.ChangeAt Go.RowKit
open Go.ChangeMaps (open_string shut_string)

theorem move_max : moveP [(9223372036854775807, 0)] 1 (-1) = [(-9223372036854775808, -1)] := by
  simp [moveP, movP, RowKit.wrap64]

set_option maxRecDepth 100000 in
set_option maxHeartbeats 3200000 in
theorem pairsKnown_walk (w : World) : Calls Try.prog 3 #[] w (Yes w) := by
  obtain ⟨i0, hi, hz0, hz1, hz2⟩ := info_parts Try.infoPair
  go_enter Try.func3, Try.ntmps3
  go_wp2_with fail
  refine (pmove _ 1 _ [(9223372036854775807, 0)] 1 (-1) _ rfl (by decide) (row_lit (pv [(9223372036854775807, 0)]) 24 (by simp))).mono ?_
  rintro e w1 ⟨v, rfl, hv, hb⟩
  have B := below_go (below_al (below_al (below_al (below_al (below_al (below_al (Below.refl _ _) _) _) _) _) _) _) hb
  have r_a : Row w1 (some ⟨w.heap.size, 0, none⟩) (iv [4, 4, 4]) := Row.below ((((((row_lit (iv [4, 4, 4]) 3 (by simp)).alloc _).alloc _).alloc _).alloc _).alloc _) hb
  have r_b : Row w1 (some ⟨w.heap.size + 1, 0, none⟩) (iv [4, 4]) := Row.below (((((row_lit (iv [4, 4]) 3 (by simp)).alloc _).alloc _).alloc _).alloc _) hb
  have r_up : Row w1 (some ⟨w.heap.size + 2, 0, none⟩) (pv [(0, 0), (2, 1)]) := Row.below ((((row_lit (pv [(0, 0), (2, 1)]) 24 (by simp)).alloc _).alloc _).alloc _) hb
  have r_same : Row w1 (some ⟨w.heap.size + 3, 0, none⟩) (pv [(1, 0), (1, 1)]) := Row.below (((row_lit (pv [(1, 0), (1, 1)]) 24 (by simp)).alloc _).alloc _) hb
  have r_out : Row w1 (some ⟨w.heap.size + 4, 0, none⟩) (pv [(0, 2)]) := Row.below ((row_lit (pv [(0, 2)]) 24 (by simp)).alloc _) hb
  have bb := B
  clear B hb
  rw [show moveP [(9223372036854775807, 0)] 1 (-1) = [(-9223372036854775808, -1)] from move_max] at hv
  obtain ⟨V_m, c_m, rfl, _, _, r_m, _⟩ := own_sliceS hv
  clear hv
  go_wp2_with fail
  refine (pturn _ 1 _ [(3, 8)] _ rfl (by decide) (row_lit (pv [(3, 8)]) 24 (by simp))).mono ?_
  rintro e w2 ⟨v, rfl, hv, hb⟩
  have B := below_go (below_al (Below.refl _ _) _) hb
  replace r_a := r_a.below B
  replace r_b := r_b.below B
  replace r_up := r_up.below B
  replace r_same := r_same.below B
  replace r_out := r_out.below B
  replace r_m := r_m.below B
  replace bb := below_go bb B
  clear B hb
  rw [show turnP [(3, 8)] = [(8, 3)] by decide] at hv
  obtain ⟨V_t, c_t, rfl, _, _, r_t, _⟩ := own_sliceS hv
  clear hv
  go_wp2_with fail
  refine (pvals _ _ 2 4 _ _ [6, 7] [(1, 0), (2, 0), (-1, 0), (0, 0)] _ rfl rfl (by decide) ((row_lit (iv [6, 7]) 3 (by simp)).alloc _) (row_lit (pv [(1, 0), (2, 0), (-1, 0), (0, 0)]) 24 (by simp))).mono ?_
  rintro e w3 ⟨v, rfl, hv, hb⟩
  have B := below_go (below_al (below_al (Below.refl _ _) _) _) hb
  replace r_a := r_a.below B
  replace r_b := r_b.below B
  replace r_up := r_up.below B
  replace r_same := r_same.below B
  replace r_out := r_out.below B
  replace r_m := r_m.below B
  replace r_t := r_t.below B
  replace bb := below_go bb B
  clear B hb
  rw [show valsOf [6, 7] [(1, 0), (2, 0), (-1, 0), (0, 0)] = [7, 6] by decide] at hv
  obtain ⟨V_v, c_v, rfl, _, _, r_v, _⟩ := own_slice hv
  clear hv
  go_wp2_with fail
  refine (awake7 _).mono ?_
  rintro e w4 ⟨rfl, hb⟩
  have B := below_go (Below.refl _ _) hb
  replace r_a := r_a.below B
  replace r_b := r_b.below B
  replace r_up := r_up.below B
  replace r_same := r_same.below B
  replace r_out := r_out.below B
  replace r_m := r_m.below B
  replace r_t := r_t.below B
  replace r_v := r_v.below B
  replace bb := below_go bb B
  clear B hb
  go_wp2_with fail
  refine (pgood _ _ _ 3 2 2 _ _ _ [4, 4, 4] [4, 4] [(0, 0), (2, 1)] _ rfl rfl rfl (by decide) r_a r_b r_up).mono ?_
  rintro e w5 ⟨rfl, hb⟩
  have B := below_go (Below.refl _ _) hb
  replace r_a := r_a.below B
  replace r_b := r_b.below B
  replace r_up := r_up.below B
  replace r_same := r_same.below B
  replace r_out := r_out.below B
  replace r_m := r_m.below B
  replace r_t := r_t.below B
  replace r_v := r_v.below B
  replace bb := below_go bb B
  clear B hb
  rw [show goodB [4, 4, 4] [4, 4] [(0, 0), (2, 1)] = true by decide]
  go_wp2_with fail
  refine (pgood _ _ _ 3 2 2 _ _ _ [4, 4, 4] [4, 4] [(1, 0), (1, 1)] _ rfl rfl rfl (by decide) r_a r_b r_same).mono ?_
  rintro e w6 ⟨rfl, hb⟩
  have B := below_go (Below.refl _ _) hb
  replace r_a := r_a.below B
  replace r_b := r_b.below B
  replace r_up := r_up.below B
  replace r_same := r_same.below B
  replace r_out := r_out.below B
  replace r_m := r_m.below B
  replace r_t := r_t.below B
  replace r_v := r_v.below B
  replace bb := below_go bb B
  clear B hb
  rw [show goodB [4, 4, 4] [4, 4] [(1, 0), (1, 1)] = false by decide]
  go_wp2_with fail
  refine (pgood _ _ _ 3 2 1 _ _ _ [4, 4, 4] [4, 4] [(0, 2)] _ rfl rfl rfl (by decide) r_a r_b r_out).mono ?_
  rintro e w7 ⟨rfl, hb⟩
  have B := below_go (Below.refl _ _) hb
  replace r_a := r_a.below B
  replace r_b := r_b.below B
  replace r_up := r_up.below B
  replace r_same := r_same.below B
  replace r_out := r_out.below B
  replace r_m := r_m.below B
  replace r_t := r_t.below B
  replace r_v := r_v.below B
  replace bb := below_go bb B
  clear B hb
  rw [show goodB [4, 4, 4] [4, 4] [(0, 2)] = false by decide]
  go_wp2_with fail
  refine (pgood _ _ _ 3 2 0 _ _ _ [4, 4, 4] [4, 4] [] _ rfl rfl rfl (by decide) r_a r_b (Row.nil _ _)).mono ?_
  rintro e w8 ⟨rfl, hb⟩
  have B := below_go (Below.refl _ _) hb
  replace r_a := r_a.below B
  replace r_b := r_b.below B
  replace r_up := r_up.below B
  replace r_same := r_same.below B
  replace r_out := r_out.below B
  replace r_m := r_m.below B
  replace r_t := r_t.below B
  replace r_v := r_v.below B
  replace bb := below_go bb B
  clear B hb
  rw [show goodB [4, 4, 4] [4, 4] [] = true by decide]
  go_wp2_with fail
  refine (pgood _ _ _ 3 2 1 _ _ _ [4, 4, 4] [4, 4] [(-1, 0)] _ rfl rfl rfl (by decide) (r_a.alloc _) (r_b.alloc _) (row_lit (pv [(-1, 0)]) 24 (by simp))).mono ?_
  rintro e w9 ⟨rfl, hb⟩
  have B := below_go (below_al (Below.refl _ _) _) hb
  have r_mi : Row w9 (some ⟨w8.heap.size, 0, none⟩) (pv [(-1, 0)]) := Row.below (row_lit (pv [(-1, 0)]) 24 (by simp)) hb
  replace r_a := r_a.below B
  replace r_b := r_b.below B
  replace r_up := r_up.below B
  replace r_same := r_same.below B
  replace r_out := r_out.below B
  replace r_m := r_m.below B
  replace r_t := r_t.below B
  replace r_v := r_v.below B
  replace bb := below_go bb B
  clear B hb
  rw [show goodB [4, 4, 4] [4, 4] [(-1, 0)] = false by decide]
  clear r_a
  clear r_b
  clear r_mi
  go_wp2_with fail
  refine (pless _ _ 2 2 _ _ [(0, 0), (2, 1)] [(1, 0), (1, 1)] _ rfl rfl (by decide) (by decide) r_up r_same).mono ?_
  rintro e w10 ⟨rfl, q, hq⟩
  have hb := below_of hq
  clear hq
  have B := below_go (Below.refl _ _) hb
  replace r_up := r_up.below B
  replace r_same := r_same.below B
  replace r_out := r_out.below B
  replace r_m := r_m.below B
  replace r_t := r_t.below B
  replace r_v := r_v.below B
  replace bb := below_go bb B
  clear B hb
  rw [show lessB [(0, 0), (2, 1)] [(1, 0), (1, 1)] = true by decide]
  clear r_same
  go_wp2_with fail
  refine (pless _ _ 1 1 _ _ [(0, 1)] [(0, 2)] _ rfl rfl (by decide) (by decide) (row_lit (pv [(0, 1)]) 24 (by simp)) (r_out.alloc _)).mono ?_
  rintro e w11 ⟨rfl, q, hq⟩
  have hb := below_of hq
  clear hq
  have B := below_go (below_al (Below.refl _ _) _) hb
  have r_j : Row w11 (some ⟨w10.heap.size, 0, none⟩) (pv [(0, 1)]) := Row.below (row_lit (pv [(0, 1)]) 24 (by simp)) hb
  replace r_up := r_up.below B
  replace r_out := r_out.below B
  replace r_m := r_m.below B
  replace r_t := r_t.below B
  replace r_v := r_v.below B
  replace bb := below_go bb B
  clear B hb
  rw [show lessB [(0, 1)] [(0, 2)] = true by decide]
  clear r_j
  clear r_out
  go_wp2_with (at_builtin; refine append_rowS rfl (.tmp 79) (.tmp 80) 25 rfl w11.heap.size 24 i0 (.agg #[.int .i64 0, .int .i64 0]) 2 16 Try.underlying25 hi hz0 hz1 hz2 rfl (by decide) _ 0 [] rfl (own_emptyS w11 _ 2 (Nat.le_refl _)) _ 2 _ (pv [(0, 0), (2, 1)]) rfl rfl (r_up.alloc _) (fun e => by cases e) (pv_cells _) (by decide) (by decide) (by simp) ?_)
  intro v1 x1 o1 g1
  have B1 : Below w11.heap.size w11 x1 := ((Below.refl _ w11).alloc (Nat.le_refl _) _).grown g1 (by simp) (fun j hj => by cases hj; exact Nat.le_refl _)
  have hs1 := B1.size
  clear g1
  go_wp2_with (at_builtin; refine append_rowS rfl (.tmp 81) (.tmp 83) 25 rfl w11.heap.size 24 i0 (.agg #[.int .i64 0, .int .i64 0]) 2 16 Try.underlying25 hi hz0 hz1 hz2 rfl (by decide) _ 2 _ rfl (o1.alloc _) _ 1 _ (pv [(0, 0)]) rfl rfl (row_lit0 x1 (pv [(0, 0)]) _) (fun e => by cases e) (pv_cells _) (by decide) (by decide) (by simp; omega) ?_)
  intro v2 x2 o2 g2
  have B2 : Below w11.heap.size w11 x2 := (B1.alloc hs1 _).grown g2 (by simp; omega) (fun x hx => (o1.lt x hx).1)
  have o3 : x2.ownsRow w11.heap.size 24 2 v2 3 (pv [(0, 0), (2, 1), (0, 0)]) := o2
  replace bb := below_go bb B2
  replace r_up := r_up.below B2
  replace r_m := r_m.below B2
  replace r_t := r_t.below B2
  replace r_v := r_v.below B2
  obtain ⟨V_q, c_q, rfl, _, _, r_q, _⟩ := own_sliceS o3
  clear o1 o2 o3 g2 B1 B2 hs1
  go_wp2_with fail
  refine (pless _ _ 2 3 _ _ [(0, 0), (2, 1)] [(0, 0), (2, 1), (0, 0)] _ rfl rfl (by decide) (by decide) r_up r_q).mono ?_
  rintro e w12 ⟨rfl, q, hq⟩
  have hb := below_of hq
  clear hq
  have B := below_go (Below.refl _ _) hb
  replace r_up := r_up.below B
  replace r_m := r_m.below B
  replace r_t := r_t.below B
  replace r_v := r_v.below B
  replace r_q := r_q.below B
  replace bb := below_go bb B
  clear B hb
  rw [show lessB [(0, 0), (2, 1)] [(0, 0), (2, 1), (0, 0)] = true by decide]
  clear r_q
  go_wp2_with fail
  refine (pless _ _ 2 2 _ _ [(0, 0), (2, 1)] [(0, 0), (2, 1)] _ rfl rfl (by decide) (by decide) r_up r_up).mono ?_
  rintro e w13 ⟨rfl, q, hq⟩
  have hb := below_of hq
  clear hq
  have B := below_go (Below.refl _ _) hb
  replace r_up := r_up.below B
  replace r_m := r_m.below B
  replace r_t := r_t.below B
  replace r_v := r_v.below B
  replace bb := below_go bb B
  clear B hb
  rw [show lessB [(0, 0), (2, 1)] [(0, 0), (2, 1)] = false by decide]
  clear r_up
  obtain ⟨g, o, rfl, c1, c2⟩ := r_m.pair (k := 0) (by decide)
  have c1' : w13.cell? ⟨g, o, none⟩ = some (.int .i64 (-9223372036854775808)) := c1
  have c2' : w13.cell? ⟨g, o + 1, none⟩ = some (.int .i64 (-1)) := by simpa using c2
  obtain ⟨h, p, rfl, d1, d2⟩ := r_t.pair (k := 0) (by decide)
  have d1' : w13.cell? ⟨h, p, none⟩ = some (.int .i64 8) := d1
  have d2' : w13.cell? ⟨h, p + 1, none⟩ = some (.int .i64 3) := by simpa using d2
  clear c1 c2 d1 d2 r_m r_t
  go_wp2_with fail
  refine (sameInts_any _ _ 2 2 _ _ [7, 6] [7, 6] _ rfl rfl (by decide) (r_v.alloc _) (row_lit (iv [7, 6]) 3 (by simp))).mono ?_
  rintro e w14 ⟨rfl, q, hq⟩
  have hb := below_of hq
  clear hq
  have B := below_go (below_al (Below.refl _ _) _) hb
  have r_r : Row w14 (some ⟨w13.heap.size, 0, none⟩) (iv [7, 6]) := Row.below (row_lit (iv [7, 6]) 3 (by simp)) hb
  replace r_v := r_v.below B
  replace bb := below_go bb B
  clear B hb
  rw [show decide (([7, 6] : List Int) = [7, 6]) = true by decide]
  go_wp2_with fail
  go_ret
  exact Yes.of bb

/-! ### The row's step -/
theorem own : ownKnob Try.prog.godebug = none := by kernel_rfl
theorem laidOut : laidOutB Try.prog = true := by kernel_rfl

theorem contract (H : Type) (enc : TypeId × Value → H) (W : World) (base : Nat) (args : Array Value) (ds gs : List (DataW H)) (before : List MemPlace)
    (hval : ∀ (j : Nat) t v, Try.f3.params[j]? = some t → args[j]? = some v → Value.okWide Try.prog W .any base t v)
    (hW : DataW.Whole enc Try.prog Try.f3.params.toList Rows.pairsKnownSpec.vars false W args.toList ds gs before) :
    Calls Try.prog 3 args W fun e W' => ∃ v, e = .returned v ∧ Rows.pairsKnownSpec.post enc Try.prog Try.f3 false true false false W args v W' := by
  have hW' := hW
  obtain ⟨p, q, hA0, hV, rfl, hfz, hnd⟩ := hW
  have hA : DataW.TrodAll enc Try.prog W 0 (fun _ => true) true Try.f3.params.toList args.toList ds p := hA0
  rw [Try.params3] at hA
  obtain ⟨rfl, rfl, rfl⟩ := trodAll_none hA
  obtain ⟨rfl, rfl⟩ := trodVars_none hV
  clear hA0
  refine (pairsKnown_walk  W ).mono fun e W' ⟨he, bel⟩ => ?_
  subst he
  exact ⟨_, rfl, _, _, _, [], _, [], hW', trodAll_mk1 (shut_bool Try.underlying4 _), trodAll_mk0, rfl, bel.frame _, fun h => by cases h⟩

set_option maxRecDepth 100000 in
theorem lifted (os : Os) (started : os.Started) (H : Type) (enc : TypeId × Value → H) :
    ReturnsInHanded {} Try.checked os 3 .any (Rows.pairsKnownSpec.pre6 enc Try.prog Try.f3 Rows.pairsKnownRow.domain false) (Rows.pairsKnownSpec.post enc Try.prog Try.f3 false true false false) := by
  refine returnsInHanded_of_change (C := Try.checked) own started (by kernel_rfl) Try.func3
    (ChangeSpec.witness6 (enc := enc) (C := Try.checked) false ⟨#[], #[], []⟩ 8 (by kernel_rfl) (by kernel_rfl) (by kernel_rfl) (by kernel_rfl)) ?_
  intro W base args ds gs before hval hW _ _
  exact contract H enc W base args ds gs before hval hW

/-- The statement. -/
theorem proved : Rows.PairsKnownSaid :=
  OpenClaim.holds_of_wide 3 Try.f3 rfl rfl rfl rfl rfl rfl rfl ⟨rfl, rfl, rfl, rfl, rfl⟩ rfl rfl rfl rfl rfl (by kernel_rfl) Try.func3 (by kernel_rfl)
    (of_decide_eq_true (by kernel_rfl)) (by unfold Func.isWrapper; first | (rw [if_pos (by decide +kernel)]; kernel_rfl) | (rw [if_neg (by decide +kernel)]; exact ⟨rfl, rfl⟩))
    (fun os started H enc _ => lifted os started H enc)

end Go.Proofs.Ytlinkhffkgahpaa.pairsKnownP
