/-
  Proved: tattinglaw3.TrimKnown returns true.
-/
import Derived.Test.YtambidlenfnbiaaAwake3
import Derived.Test.YtambidlenfnbiaaArgs
namespace Go.Proofs.Ytambidlenfnbiaa.trimKnownP
open Go.ChangeShapes Go.WideShapes Go.ChangeAt Go.RowKit
open Go.ChangeMaps (open_string shut_string)

theorem below_go {w w1 w2 : World} (h : Below w.heap.size w w1) (h2 : Below w1.heap.size w1 w2) : Below w.heap.size w w2 := h.trans (h2.mono h.size)
theorem below_a1 (w : World) (o : Obj) : Below w.heap.size w (w.alloc o) := (Below.refl _ _).alloc (Nat.le_refl _) _

set_option maxRecDepth 100000 in
set_option maxHeartbeats 3200000 in
theorem trimKnown_walk (w : World) : Calls Try.prog 3 #[] w (Yes w) := by
  go_enter Try.func3, Try.ntmps3
  go_wp2_with fail
  refine (of_any _ _ 2 2 2 2 [7, 7] [7, 7] _ rfl rfl (by decide) (by decide) (by decide) (by decide) ((row_lit0 w (iv [7, 7]) 3).alloc _) (row_lit1 w _ (iv [7, 7]) 3)).mono ?_
  rintro e w1 ⟨rfl, q, hq⟩
  have b1 := below_drawn hq (below_alloc2 w _ _)
  clear hq
  rw [show pe [7, 7] [7, 7] = 2 by decide, show se [7, 7] [7, 7] = 0 by decide]
  go_wp2_with fail
  refine (of_any _ _ 2 3 2 3 [7, 7] [7, 7, 7] _ rfl rfl (by decide) (by decide) (by decide) (by decide) ((row_lit0 w1 (iv [7, 7]) 3).alloc _) (row_lit1 w1 _ (iv [7, 7, 7]) 3)).mono ?_
  rintro e w2 ⟨rfl, q, hq⟩
  have b2 := below_go b1 (below_drawn hq (below_alloc2 w1 _ _))
  clear hq b1
  rw [show pe [7, 7] [7, 7, 7] = 2 by decide, show se [7, 7] [7, 7, 7] = 0 by decide]
  go_wp2_with fail
  refine (of_any _ _ 0 1 0 1 [] [1] _ rfl rfl (by decide) (by decide) (by decide) (by decide) (Row.nil _ _) (row_lit0 w2 (iv [1]) 3)).mono ?_
  rintro e w3 ⟨rfl, q, hq⟩
  have b3 := below_go b2 (below_drawn hq (below_a1 w2 _))
  clear hq b2
  rw [show pe [] [1] = 0 by decide, show se [] [1] = 0 by decide]
  go_wp2_with fail
  refine (grow_any _ 0 0 [] 0 2 3 2 w3 rfl (by decide) (i64_small (by decide)) (i64_small (by decide)) (i64_small (by decide)) (i64_small (by decide)) (Row.nil _ _)).mono ?_
  rintro e w4 ⟨v, rfl, hv, hb4⟩
  have b4 := below_go b3 hb4
  rw [show growE [] 0 2 3 2 = 0 by decide]
  rw [show grownU [] 0 2 3 2 = [(1, 0), (2, 1)] by decide] at hv
  obtain ⟨V, cV, rfl, hcV, _, hV, _⟩ := own_sliceS hv
  clear hv hb4 b3
  go_wp2_with fail
  refine (grow_any _ 0 0 [] 2 2 3 9 _ rfl (by decide) (i64_small (by decide)) (i64_small (by decide)) (i64_small (by decide)) (i64_small (by decide)) (Row.nil _ _)).mono ?_
  rintro e w5 ⟨v5, rfl, hv, hb⟩
  have b5 := below_go b4 hb
  have hV := Row.below (w := w4) hV hb
  rw [show growE [] 2 2 3 9 = 1 by decide]
  rw [show grownU [] 2 2 3 9 = [] by decide] at hv
  obtain ⟨V5, cV5, rfl, _, _, _, _⟩ := own_sliceS hv
  clear hv hb b4
  go_wp2_with fail
  refine (grow_any _ 1 1 [(1, 0)] 1 1 3 9 _ rfl (by decide) (i64_small (by decide)) (i64_small (by decide)) (i64_small (by decide)) (i64_small (by decide)) (row_lit0 w5 (pv [(1, 0)]) 30)).mono ?_
  rintro e w6 ⟨v6, rfl, hv, hb⟩
  have b6 := below_go b5 (below_go (below_a1 w5 _) hb)
  have hV := Row.below (w := w5) hV (below_go (below_a1 w5 _) hb)
  rw [show growE [(1, 0)] 1 1 3 9 = 1 by decide]
  rw [show grownU [(1, 0)] 1 1 3 9 = [] by decide] at hv
  obtain ⟨V6, cV6, rfl, _, _, _, _⟩ := own_sliceS hv
  clear hv hb b5
  go_wp2_with fail
  refine (grow_any _ 0 0 [] (-1) 0 3 3 _ rfl (by decide) (i64_small (by decide)) (i64_small (by decide)) (i64_small (by decide)) (i64_small (by decide)) (Row.nil _ _)).mono ?_
  rintro e w7 ⟨v7, rfl, hv, hb⟩
  have b7 := below_go b6 hb
  have hV := Row.below (w := w6) hV hb
  rw [show growE [] (-1) 0 3 3 = 1 by decide]
  rw [show grownU [] (-1) 0 3 3 = [] by decide] at hv
  obtain ⟨V7, cV7, rfl, _, _, _, _⟩ := own_sliceS hv
  clear hv hb b6
  go_wp2_with fail
  refine (grow_any _ 0 0 [] 0 0 4611686018427387904 3 _ rfl (by decide) (i64_small (by decide)) (i64_small (by decide)) ⟨by decide, by decide⟩ (i64_small (by decide)) (Row.nil _ _)).mono ?_
  rintro e w8 ⟨v8, rfl, hv, hb⟩
  have b8 := below_go b7 hb
  have hV := Row.below (w := w7) hV hb
  rw [show growE [] 0 0 4611686018427387904 3 = 1 by decide]
  rw [show grownU [] 0 0 4611686018427387904 3 = [] by decide] at hv
  obtain ⟨V8, cV8, rfl, _, _, _, _⟩ := own_sliceS hv
  clear hv hb b7
  go_wp2_with fail
  refine (awake_yes _).mono ?_
  rintro e w9 ⟨rfl, hb⟩
  have b9 := below_go b8 hb
  have hV := Row.below (w := w8) hV hb
  obtain ⟨g, o, rfl, c1, c2⟩ := hV.pair (k := 0) (by decide)
  have c1' : w9.cell? ⟨g, o, none⟩ = some (.int .i64 1) := c1
  have c2' : w9.cell? ⟨g, o + 1, none⟩ = some (.int .i64 0) := by simpa using c2
  clear c1 c2 hV hb b8
  go_wp2_with fail
  go_ret
  exact Yes.of b9

/-! ### The row's step -/
theorem own : ownKnob Try.prog.godebug = none := by kernel_rfl
theorem laidOut : laidOutB Try.prog = true := by kernel_rfl

theorem contract (H : Type) (enc : TypeId × Value → H) (W : World) (base : Nat) (args : Array Value) (ds gs : List (DataW H)) (before : List MemPlace)
    (hval : ∀ (j : Nat) t v, Try.f3.params[j]? = some t → args[j]? = some v → Value.okWide Try.prog W .any base t v)
    (hW : DataW.Whole enc Try.prog Try.f3.params.toList Rows.trimKnownSpec.vars false W args.toList ds gs before) :
    Calls Try.prog 3 args W fun e W' => ∃ v, e = .returned v ∧ Rows.trimKnownSpec.post enc Try.prog Try.f3 false true false false W args v W' := by
  have hW' := hW
  obtain ⟨p, q, hA0, hV, rfl, hfz, hnd⟩ := hW
  have hA : DataW.TrodAll enc Try.prog W 0 (fun _ => true) true Try.f3.params.toList args.toList ds p := hA0
  rw [Try.params3] at hA
  obtain ⟨rfl, rfl, rfl⟩ := trodAll_none hA
  obtain ⟨rfl, rfl⟩ := trodVars_none hV
  clear hA0
  refine (trimKnown_walk  W ).mono fun e W' ⟨he, bel⟩ => ?_
  subst he
  exact ⟨_, rfl, _, _, _, [], _, [], hW', trodAll_mk1 (shut_bool Try.underlying4 _), trodAll_mk0, rfl, bel.frame _, fun h => by cases h⟩

set_option maxRecDepth 100000 in
theorem lifted (os : Os) (started : os.Started) (H : Type) (enc : TypeId × Value → H) :
    ReturnsInHanded {} Try.checked os 3 .any (Rows.trimKnownSpec.pre6 enc Try.prog Try.f3 Rows.trimKnownRow.domain false) (Rows.trimKnownSpec.post enc Try.prog Try.f3 false true false false) := by
  refine returnsInHanded_of_change (C := Try.checked) own started (by kernel_rfl) Try.func3
    (ChangeSpec.witness6 (enc := enc) (C := Try.checked) false ⟨#[], #[], []⟩ 8 (by kernel_rfl) (by kernel_rfl) (by kernel_rfl) (by kernel_rfl)) ?_
  intro W base args ds gs before hval hW _ _
  exact contract H enc W base args ds gs before hval hW

/-- The statement. -/
theorem proved : Rows.TrimKnownSaid :=
  OpenClaim.holds_of_wide 3 Try.f3 rfl rfl rfl rfl rfl rfl rfl ⟨rfl, rfl, rfl, rfl, rfl⟩ rfl rfl rfl rfl rfl (by kernel_rfl) Try.func3 (by kernel_rfl)
    (of_decide_eq_true (by kernel_rfl)) (by unfold Func.isWrapper; first | (rw [if_pos (by decide +kernel)]; kernel_rfl) | (rw [if_neg (by decide +kernel)]; exact ⟨rfl, rfl⟩))
    (fun os started H enc _ => lifted os started H enc)

end Go.Proofs.Ytambidlenfnbiaa.trimKnownP
