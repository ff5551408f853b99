/-
  Proved: tattinglaw13.TileKnown returns true.
-/
import Derived.Test.YtbfgfeggiicmbaaTlW
import Derived.Test.YtbfgfeggiicmbaaArgs
namespace Go.Proofs.Ytbfgfeggiicmbaa.tileKnownP
open Go.ChangeShapes Go.WideShapes Go.ChangeAt Go.RowKit

set_option maxRecDepth 100000 in
set_option maxHeartbeats 3200000 in
theorem tileKnown_walk (w : World) : Calls Try.prog 3 #[] w (Yes w) := by
  have L1 : Hid (lookV 2 16 0 0 = .tuple #[.int .i64 0, .int .i64 0, .int .i64 1]) := lookV_no (by decide)
  have L2 : Hid (lookV 2 0 4 0 = .tuple #[.int .i64 0, .int .i64 0, .int .i64 1]) := lookV_no (by decide)
  have L3 : Hid (lookV 2 0 0 (-1) = .tuple #[.int .i64 0, .int .i64 0, .int .i64 1]) := lookV_no (by decide)
  have L4 : Hid (lookV 2 15 0 0 = .tuple #[.int .i64 3, .int .i64 3, .int .i64 0]) := lookV_lit (by decide) (by decide +kernel) (by decide +kernel)
  have L5 : Hid (lookV 2 9 3 1 = .tuple #[.int .i64 2, .int .i64 0, .int .i64 0]) := lookV_lit (by decide) (by decide +kernel) (by decide +kernel)
  have N2 : Hid (∀ w, Calls Try.prog 8 #[.int .i64 2] w _) := fun w => new_ok 2 w (by decide)
  have N3 : Hid (∀ w, Calls Try.prog 9 #[.int .i64 3] w _) := fun w => of_ok 3 w (by decide)
  go_enter Try.func3, Try.ntmps3
  go_wp2_with fail
  refine (new_no 0 _ (by decide)).mono ?_
  rintro e w1 ⟨rfl, bb⟩
  go_wp2_with fail
  refine (new_no 4 _ (by decide)).mono ?_
  rintro e w2 ⟨rfl, hb⟩
  replace bb := below_go bb hb
  clear hb
  go_wp2_with fail
  refine (N2.out _).mono ?_
  rintro e w3 ⟨b, rfl, hO, h0, hb⟩
  have hT : Til 2 b w3 := .inl ⟨_, hO⟩
  have h1 : w.heap.size ≤ b := Nat.le_trans bb.size h0
  have h2 : b < w3.heap.size := hO.lt
  replace bb := below_go bb hb
  clear hb hO N2
  go_wp2_with fail
  refine (N3.out _).mono ?_
  rintro e w4 ⟨c, rfl, hY, h3, hb⟩
  replace hT := hT.below hb
  replace bb := below_go bb hb
  have hbc : some c ≠ some b := by intro e; injection e with e; omega
  clear hb N3
  go_wp2_with fail
  refine (awake13 _).mono ?_
  rintro e w5 ⟨rfl, hb⟩
  replace hT := hT.below hb
  replace hY := hY.below hb
  replace bb := below_go bb hb
  clear hb
  go_wp2_with fail
  refine (look_w 2 b 16 0 0 _ w w5 (by decide) hT bb h1 L1.out).mono ?_
  rintro e w6 ⟨rfl, hT, bb, hg⟩
  replace hY := hY.grown hg hbc
  clear hg L1
  go_wp2_with fail
  refine (look_w 2 b 0 4 0 _ w w6 (by decide) hT bb h1 L2.out).mono ?_
  rintro e w7 ⟨rfl, hT, bb, hg⟩
  replace hY := hY.grown hg hbc
  clear hg L2
  go_wp2_with fail
  refine (look_w 2 b 0 0 (-1) _ w w7 (by decide) hT bb h1 L3.out).mono ?_
  rintro e w8 ⟨rfl, hT, bb, hg⟩
  replace hY := hY.grown hg hbc
  clear hg L3
  go_wp2_with fail
  refine (look_w 2 b 15 0 0 _ w w8 (by decide) hT bb h1 L4.out).mono ?_
  rintro e w9 ⟨rfl, hT, bb, hg⟩
  replace hY := hY.grown hg hbc
  clear hg L4
  go_wp2_with fail
  refine (look_w 2 b 9 3 1 _ w w9 (by decide) hT bb h1 L5.out).mono ?_
  rintro e w10 ⟨rfl, hT, bb, hg⟩
  replace hY := hY.grown hg hbc
  clear hg L5
  have hZ : Til 3 c w10 := .inl ⟨_, hY⟩
  go_wp2_with fail
  refine (size_w b 2 w10 w10 (by decide) hT (Below.refl _ _)).mono ?_
  rintro e w11 ⟨rfl, hT, hb⟩
  rw [show sizN 2 = 256 by decide]
  replace hZ := hZ.below hb
  replace bb := below_go bb hb
  go_wp2_with fail
  refine (size_w c 3 w w11 (by decide) hZ bb).mono ?_
  rintro e w12 ⟨rfl, hZ, bb⟩
  rw [show sizN 3 = 32768 by decide]
  go_wp2_with fail
  go_ret
  exact Yes.of bb

/-! ### The row's step -/
theorem own : ownKnob Try.prog.godebug = none := by kernel_rfl
theorem laidOut : laidOutB Try.prog = true := by kernel_rfl

theorem contract (H : Type) (enc : TypeId × Value → H) (W : World) (base : Nat) (args : Array Value) (ds gs : List (DataW H)) (before : List MemPlace)
    (hval : ∀ (j : Nat) t v, Try.f3.params[j]? = some t → args[j]? = some v → Value.okWide Try.prog W .any base t v)
    (hW : DataW.Whole enc Try.prog Try.f3.params.toList Rows.tileKnownSpec.vars false W args.toList ds gs before) :
    Calls Try.prog 3 args W fun e W' => ∃ v, e = .returned v ∧ Rows.tileKnownSpec.post enc Try.prog Try.f3 false true false false W args v W' := by
  have hW' := hW
  obtain ⟨p, q, hA0, hV, rfl, hfz, hnd⟩ := hW
  have hA : DataW.TrodAll enc Try.prog W 0 (fun _ => true) true Try.f3.params.toList args.toList ds p := hA0
  rw [Try.params3] at hA
  obtain ⟨rfl, rfl, rfl⟩ := trodAll_none hA
  obtain ⟨rfl, rfl⟩ := trodVars_none hV
  clear hA0
  refine (tileKnown_walk  W ).mono fun e W' ⟨he, bel⟩ => ?_
  subst he
  exact ⟨_, rfl, _, _, _, [], _, [], hW', trodAll_mk1 (shut_bool Try.underlying4 _), trodAll_mk0, rfl, bel.frame _, fun h => by cases h⟩

set_option maxRecDepth 100000 in
theorem lifted (os : Os) (started : os.Started) (H : Type) (enc : TypeId × Value → H) :
    ReturnsInHanded {} Try.checked os 3 .any (Rows.tileKnownSpec.pre6 enc Try.prog Try.f3 Rows.tileKnownRow.domain false) (Rows.tileKnownSpec.post enc Try.prog Try.f3 false true false false) := by
  refine returnsInHanded_of_change (C := Try.checked) own started (by kernel_rfl) Try.func3
    (ChangeSpec.witness6 (enc := enc) (C := Try.checked) false ⟨#[], #[], []⟩ 8 (by kernel_rfl) (by kernel_rfl) (by kernel_rfl) (by kernel_rfl)) ?_
  intro W base args ds gs before hval hW _ _
  exact contract H enc W base args ds gs before hval hW

/-- The statement. -/
theorem proved : Rows.TileKnownSaid :=
  OpenClaim.holds_of_wide 3 Try.f3 rfl rfl rfl rfl rfl rfl rfl ⟨rfl, rfl, rfl, rfl, rfl⟩ rfl rfl rfl rfl rfl (by kernel_rfl) Try.func3 (by kernel_rfl)
    (of_decide_eq_true (by kernel_rfl)) (by unfold Func.isWrapper; first | (rw [if_pos (by decide +kernel)]; kernel_rfl) | (rw [if_neg (by decide +kernel)]; exact ⟨rfl, rfl⟩))
    (fun os started H enc _ => lifted os started H enc)

end Go.Proofs.Ytbfgfeggiicmbaa.tileKnownP
