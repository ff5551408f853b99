/-
  Proved: tattinglaw1.TokKnown returns true. No condition.
-/
import Derived.Test.YtjhadoglcmhloaaAwake1
import Derived.Test.YtjhadoglcmhloaaArgs
namespace Go.Proofs.Ytjhadoglcmhloaa.tokKnownP
open Go.ChangeShapes Go.WideShapes Go.ChangeAt Go.RowKit
open Go.ChangeMaps (open_string shut_string)

theorem mode_line (w : World) : Calls Try.prog 12 #[.string { data := #[108, 105, 110, 101] }] w fun e w' => e = .returned (.tuple #[.int .i64 0, .bool false]) ∧ w = w' := by
  have h := mode_any { data := #[108, 105, 110, 101] } w
  have e : modeOf (ByteArray.toList { data := #[108, 105, 110, 101] }) = (0, false) := by
    rw [ByteArray.toList_eq]
    decide
  rw [e] at h
  exact h

theorem name_0 (w : World) : Calls Try.prog 14 #[.int .i64 0] w fun e w' => e = .returned (.string { data := #[98, 121, 116, 101, 115] }) ∧ w = w' := name_any 0 w
theorem name_2 (w : World) : Calls Try.prog 14 #[.int .i64 2] w fun e w' => e = .returned (.string { data := #[] }) ∧ w = w' := name_any 2 w

theorem row_at (w : World) (cs : List Value) (t : TypeId) (mk : Nat × Nat) (g : Nat) (hg : g = w.heap.size) : Row (w.alloc (.cells cs.toArray t mk)) (some ⟨g, 0, none⟩) cs := by
  subst hg
  exact Row.new w cs t mk

theorem below_new (w : World) (o : Obj) : Below w.heap.size w (w.alloc o) := (Below.refl _ _).alloc (Nat.le_refl _) _

/-- The three tokens of the example. -/
theorem three (w : World) : BSs ((((w.alloc (.cells #[.int .u8 1, .int .u8 2] 5)).alloc (.cells #[] 5)).alloc (.cells #[.int .u8 3] 5)).alloc (.cells #[.slice (some ⟨w.heap.size, 0, none⟩) 2 2, .slice (some ⟨w.heap.size + 1, 0, none⟩) 0 0, .slice (some ⟨w.heap.size + 2, 0, none⟩) 1 1] 27))
    [.slice (some ⟨w.heap.size, 0, none⟩) 2 2, .slice (some ⟨w.heap.size + 1, 0, none⟩) 0 0, .slice (some ⟨w.heap.size + 2, 0, none⟩) 1 1] [[1, 2], [], [3]] := by
  have r1 := (((row_at w [.int .u8 1, .int .u8 2] 5 (0, 0) w.heap.size rfl).below (below_new _ (.cells #[] 5))).below (below_new _ (.cells #[.int .u8 3] 5))).below (below_new _ (.cells #[.slice (some ⟨w.heap.size, 0, none⟩) 2 2, .slice (some ⟨w.heap.size + 1, 0, none⟩) 0 0, .slice (some ⟨w.heap.size + 2, 0, none⟩) 1 1] 27))
  have r3 := (row_at ((w.alloc (.cells #[.int .u8 1, .int .u8 2] 5)).alloc (.cells #[] 5)) [.int .u8 3] 5 (0, 0) (w.heap.size + 2) (by simp)).below (below_new _ (.cells #[.slice (some ⟨w.heap.size, 0, none⟩) 2 2, .slice (some ⟨w.heap.size + 1, 0, none⟩) 0 0, .slice (some ⟨w.heap.size + 2, 0, none⟩) 1 1] 27))
  refine ⟨rfl, fun i v l hv hl => ?_⟩
  match i, hv, hl with
  | 0, hv, hl => cases hv; cases hl; exact ⟨_, 2, rfl, by decide, by decide, r1, fun e => by cases e⟩
  | 1, hv, hl => cases hv; cases hl; exact ⟨_, 0, rfl, by decide, by decide, Row.nil _ _, fun e => by cases e⟩
  | 2, hv, hl => cases hv; cases hl; exact ⟨_, 1, rfl, by decide, by decide, r3, fun e => by cases e⟩

set_option maxRecDepth 100000 in
set_option maxHeartbeats 3200000 in
theorem tokKnown_walk (w : World) : Calls Try.prog 3 #[] w (Yes w) := by
  have kc := fun (w : World) (C : Array Value) (n c : Nat) => Lib.run_convert_bytes_const (P := Try.prog) w 27 5 C n c Try.underlying27 Try.underlying5
  go_enter Try.func3, Try.ntmps3
  go_wp2_with fail
  refine (awake_yes _).mono ?_
  rintro e w1 ⟨rfl, hb1⟩
  go_wp2_with fail
  refine (cut_yes 0 _ _ _ [97, 98] _ rfl (by decide) (by decide) (Row.new w1 _ _ _) (by decide)).mono ?_
  rintro e w2 ⟨v, vs, rfl, hown, hbs, hb2⟩
  have hc2 : cut 0 [97, 98] = [[97], [98]] := by decide
  rw [hc2] at hown hbs
  clear hc2
  obtain ⟨A, c, rfl, _, _, hr, _⟩ := own_slice hown
  have hbt := hbs.bss
  have hbw : Below w.heap.size w w2 := (hb1.alloc hb1.size _).trans (hb2.mono (by have := hb1.size; simp; omega))
  clear hb2 hb1 hown hbs
  go_wp2_with fail
  refine (cut_no 2 _ _ (by decide)).mono ?_
  rintro e w3 ⟨rfl, hw3⟩
  have hb3 : Below w2.heap.size w2 w3 := hw3 ▸ below_new _ _
  have hbw3 := hbw.trans (hb3.mono hbw.size)
  have hr3 := hr.below hb3
  have hbt3 := hbt.below hb3
  clear hw3 hb3 hbw hr hbt
  go_wp2_with fail
  refine (count_no (-1) _ _ (by decide)).mono ?_
  rintro e w' ⟨rfl, rfl⟩
  go_wp2_with fail
  refine (count_yes 1 _ _ _ [10, 10, 120] _ rfl (by decide) (Row.new w3 _ _ _) (by decide)).mono ?_
  rintro e w4 ⟨rfl, hw4⟩
  have hcl : ((cut 1 [10, 10, 120]).length : Int) = 3 := by decide
  rw [hcl]
  clear hcl
  have hb4 : Below w3.heap.size w3 w4 := hw4 ▸ below_new _ _
  have hbw4 := hbw3.trans (hb4.mono hbw3.size)
  have hr4 := hr3.below hb4
  have hbt4 := hbt3.below hb4
  clear hw4 hb4 hbw3 hr3 hbt3
  go_wp2_with fail
  refine (mode_line _).mono ?_
  rintro e w' ⟨rfl, rfl⟩
  go_wp2_with fail
  refine (ends_any _ _ _ _ [[1, 2], [], [3]] _ rfl (by decide) (row_at _ _ _ _ _ (by simp)) (three w4) (by decide)).mono ?_
  rintro e w5 ⟨u, rfl, hown5, hb5⟩
  have he : endsTo [[1, 2], [], [3]] ([[1, 2], [], [3]] : List (List UInt8)).length = [2, 2, 3] := by decide
  rw [he] at hown5
  clear he
  obtain ⟨E, ce, rfl, _, _, hre, _⟩ := own_slice hown5
  obtain ⟨g, o, rfl, hce⟩ := hre (by simp)
  have e0 : w5.cell? ⟨g, o, none⟩ = some (.int .i64 2) := hce 0 _ rfl
  have e1 : w5.cell? ⟨g, o + 1, none⟩ = some (.int .i64 2) := hce 1 _ rfl
  have e2 : w5.cell? ⟨g, o + 2, none⟩ = some (.int .i64 3) := hce 2 _ rfl
  have hb45 : Below w4.heap.size w4 w5 := ((((below_new w4 _).alloc (by simp) _).alloc (by simp; omega) _).alloc (by simp; omega) _).trans (hb5.mono (by simp; omega))
  have hbww5 := hbw4.trans (hb45.mono hbw4.size)
  obtain ⟨g1, o1, A1, c1, rfl, hcell, _, _, h3, _⟩ := (hbt4.below hb45).cell (hr4.below hb45) (k := 1) (by decide)
  have h3' : Row w5 A1 (bv [98]) := h3
  have cv := conv_any (P := Try.prog) (n := 1) rfl h3' 27 9 5 c1 Try.underlying27 Try.underlying5 Try.underlying9
  clear hb45 hb5 hown5 hce hre hbw4 hbt4 hr4 h3
  go_wp2_with fail
  refine (name_0 _).mono ?_
  rintro e w' ⟨rfl, rfl⟩
  go_wp2_with fail
  refine (name_2 _).mono ?_
  rintro e w' ⟨rfl, rfl⟩
  go_wp2_with fail
  refine (is_any 0 _ _ _ [] _ rfl (by decide) (Row.nil _ _)).mono ?_
  rintro e w' ⟨rfl, rfl⟩
  rw [show isTok 0 [] = false by decide]
  go_wp2_with fail
  refine (is_any 1 _ _ _ [97, 10, 98] _ rfl (by decide) (Row.new w5 _ _ _)).mono ?_
  rintro e w6 ⟨rfl, hw⟩
  have hbn : Below w5.heap.size w5 w6 := hw ▸ below_new _ _
  have hbww6 := hbww5.trans (hbn.mono hbww5.size)
  clear hw hbn hbww5
  rw [show isTok 1 [97, 10, 98] = false by decide]
  go_wp2_with fail
  refine (is_any 1 _ _ _ [97, 98] _ rfl (by decide) (Row.new w6 _ _ _)).mono ?_
  rintro e w7 ⟨rfl, hw⟩
  have hbn : Below w6.heap.size w6 w7 := hw ▸ below_new _ _
  have hbww7 := hbww6.trans (hbn.mono hbww6.size)
  clear hw hbn hbww6
  rw [show isTok 1 [97, 98] = true by decide]
  go_wp2_with fail
  refine (is_any 1 _ _ _ [] _ rfl (by decide) (Row.nil _ _)).mono ?_
  rintro e w' ⟨rfl, rfl⟩
  rw [show isTok 1 [] = false by decide]
  go_wp2_with fail
  refine (is_any 7 _ _ _ [97] _ rfl (by decide) (Row.new w7 _ _ _)).mono ?_
  rintro e w8 ⟨rfl, hw⟩
  have hbn : Below w7.heap.size w7 w8 := hw ▸ below_new _ _
  have hbww8 := hbww7.trans (hbn.mono hbww7.size)
  clear hw hbn hbww7
  rw [show isTok 7 [97] = false by decide]
  go_wp2_with fail
  go_ret
  exact ⟨rfl, hbww8⟩

/-! ### The row's step -/
theorem own : ownKnob Try.prog.godebug = none := by kernel_rfl
theorem laidOut : laidOutB Try.prog = true := by kernel_rfl

theorem contract (H : Type) (enc : TypeId × Value → H) (W : World) (base : Nat) (args : Array Value) (ds gs : List (DataW H)) (before : List MemPlace)
    (hval : ∀ (j : Nat) t v, Try.f3.params[j]? = some t → args[j]? = some v → Value.okWide Try.prog W .any base t v)
    (hW : DataW.Whole enc Try.prog Try.f3.params.toList Rows.tokKnownSpec.vars false W args.toList ds gs before) :
    Calls Try.prog 3 args W fun e W' => ∃ v, e = .returned v ∧ Rows.tokKnownSpec.post enc Try.prog Try.f3 false true false false W args v W' := by
  have hW' := hW
  obtain ⟨p, q, hA0, hV, rfl, hfz, hnd⟩ := hW
  have hA : DataW.TrodAll enc Try.prog W 0 (fun _ => true) true Try.f3.params.toList args.toList ds p := hA0
  rw [Try.params3] at hA
  obtain ⟨rfl, rfl, rfl⟩ := trodAll_none hA
  obtain ⟨rfl, rfl⟩ := trodVars_none hV
  clear hA0
  refine (tokKnown_walk  W ).mono fun e W' ⟨he, bel⟩ => ?_
  subst he
  exact ⟨_, rfl, _, _, _, [], _, [], hW', trodAll_mk1 (shut_bool Try.underlying4 _), trodAll_mk0, rfl, bel.frame _, fun h => by cases h⟩

set_option maxRecDepth 100000 in
theorem lifted (os : Os) (started : os.Started) (H : Type) (enc : TypeId × Value → H) :
    ReturnsInHanded {} Try.checked os 3 .any (Rows.tokKnownSpec.pre6 enc Try.prog Try.f3 Rows.tokKnownRow.domain false) (Rows.tokKnownSpec.post enc Try.prog Try.f3 false true false false) := by
  refine returnsInHanded_of_change (C := Try.checked) own started (by kernel_rfl) Try.func3
    (ChangeSpec.witness6 (enc := enc) (C := Try.checked) false ⟨#[], #[], []⟩ 8 (by kernel_rfl) (by kernel_rfl) (by kernel_rfl) (by kernel_rfl)) ?_
  intro W base args ds gs before hval hW _ _
  exact contract H enc W base args ds gs before hval hW

/-- The statement. -/
theorem proved : Rows.TokKnownSaid :=
  OpenClaim.holds_of_wide 3 Try.f3 rfl rfl rfl rfl rfl rfl rfl ⟨rfl, rfl, rfl, rfl, rfl⟩ rfl rfl rfl rfl rfl (by kernel_rfl) Try.func3 (by kernel_rfl)
    (of_decide_eq_true (by kernel_rfl)) (by unfold Func.isWrapper; first | (rw [if_pos (by decide +kernel)]; kernel_rfl) | (rw [if_neg (by decide +kernel)]; exact ⟨rfl, rfl⟩))
    (fun os started H enc _ => lifted os started H enc)

end Go.Proofs.Ytjhadoglcmhloaa.tokKnownP
