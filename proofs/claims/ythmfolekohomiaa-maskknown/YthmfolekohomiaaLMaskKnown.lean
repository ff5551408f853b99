/-
  Proved: tattinglaw6.MaskKnown returns true.
-/
import Derived.Test.YthmfolekohomiaaMk8
import Derived.Test.YthmfolekohomiaaArgs
namespace Go.Proofs.Ythmfolekohomiaa.maskKnownP
open Go.ChangeShapes Go.WideShapes Go.ChangeAt Go.RowKit
open Go.ChangeMaps (open_string shut_string)

def b65 : List Int := List.replicate 65 0
theorem b65_len : b65.length = 65 := by decide
theorem wds65 : wds ((b65.length : Nat) : Int) = 2 := by decide
theorem wds0 : wds ((([] : List Int).length : Nat) : Int) = 0 := by decide
theorem bits0 : ∀ j, j < 64 * 2 → decide (b65[j]? = some 0) = bt [18446744073709551615, 1] j := by decide +kernel
theorem bits1 : ∀ j, j < 64 * 2 → decide (b65[j]? = some 1) = bt [0, 0] j := by decide +kernel
theorem b65_wf : ∀ x ∈ b65, (Lit.int .i64 x).wf = true := by decide
theorem wd_two {a b : Nat} (ha : a < 18446744073709551616) (hb : b < 18446744073709551616) : Wd [a, b] := by
  intro u hu
  simp at hu
  rcases hu with rfl | rfl
  · exact ha
  · exact hb
theorem b65_row (w : World) : Row (w.alloc (.cells (madeCells #[.int .i64 0] 65) 3)) (some ⟨w.heap.size, 0, none⟩) (iv b65) := fun _ => ⟨w.heap.size, 0, rfl, fun i u hu => by
  have h := World.rowIs_made w (.int .i64 0) 65 3
  have hi : i < 65 := by
    have := (List.getElem?_eq_some_iff.1 hu).1
    rw [iv_length, b65_len] at this
    exact this
  have e : u = .int .i64 0 := by
    unfold iv b65 at hu
    rw [List.map_replicate, List.getElem?_replicate, if_pos hi] at hu
    injection hu with hu
    exact hu.symm
  rw [e, Nat.zero_add]
  exact h.cell hi⟩

set_option maxRecDepth 100000 in
set_option maxHeartbeats 3200000 in
theorem maskKnown_walk (w : World) : Calls Try.prog 3 #[] w (Yes w) := by
  obtain ⟨i0, hi, hz0, hz1, hz2⟩ := info_parts Try.infoInt
  go_enter Try.func3, Try.ntmps3
  go_wp2_with (at_make; refine wpList_make_row _ rfl _ _ 22 rfl 3 i0 (.int .i64 0) Try.underlying22 hi hz0 hz1 rfl .i64 .i64 65 rfl rfl (by rw [hz2]; omega) (by omega) ?_)
  have r0 := b65_row w
  have b0 := below_a1 w (.cells (madeCells #[.int .i64 0] 65) 3)
  generalize w.alloc (.cells (madeCells #[.int .i64 0] 65) 3) = w0 at *
  go_wp2_with fail
  refine (new_any (some ⟨w.heap.size, 0, none⟩) 65 65 b65 w0 b65_len (by omega) r0 b65_wf).mono ?_
  rintro e w1 ⟨v, rfl, hm, hb1⟩
  have bb1 := below_go b0 hb1
  clear r0 b0 hb1
  obtain ⟨p, rfl⟩ := hm.ptr
  go_wp2_with fail
  refine (new_any none 0 0 [] w1 rfl (by omega) (Row.nil _ _) (by decide)).mono ?_
  rintro e w2 ⟨v, rfl, hn, hb2⟩
  have bb2 := below_go bb1 hb2
  have hm2 := hm.below (Nat.le_refl _) hb2
  have hs2 := hb2.size
  clear hm bb1 hb2
  obtain ⟨q, rfl⟩ := hn.ptr
  go_wp2_with fail
  refine (awake6 w2).mono ?_
  rintro e w3 ⟨rfl, hb3⟩
  have bb3 := below_go bb2 hb3
  have hm3 := hm2.below hs2 hb3
  have hn3 := hn.below (Nat.le_refl _) hb3
  have hs3 := hb3.size
  clear hm2 hn bb2 hb3
  go_wp2_with fail
  refine (of_any _ _ b65 _ 0 w3 (by rw [b65_len]; omega) (by omega) hm3 (by decide)).mono ?_
  intro e w4 h4
  rw [wds65] at h4
  obtain ⟨A, c, x, rfl, hx, hc, hcm, wx, bx, hr, _, hb4⟩ := h4.out
  have ex := made_is [18446744073709551615, 1] hx wx bx rfl (wd_two (by decide) (by decide)) bits0
  subst ex
  have hm4 := hm3.below (by omega) hb4
  have hn4 := hn3.below hs3 hb4
  have bb4 := below_go bb3 hb4
  have hs4 := hb4.size
  clear h4 hm3 hn3 bb3 hb4 bx wx hx
  go_wp2_with fail
  refine (of_any _ _ b65 _ 1 w4 (by rw [b65_len]; omega) (by omega) hm4 (by decide)).mono ?_
  intro e w5 h5
  rw [wds65] at h5
  obtain ⟨A', c', x', rfl, hx, hc', hcm', wx, bx, hr', _, hb5⟩ := h5.out
  have ex := made_is [0, 0] hx wx bx rfl (wd_two (by decide) (by decide)) bits1
  subst ex
  have hn5 := hn4.below (by omega) hb5
  have bb5 := below_go bb4 hb5
  have hs5 := hb5.size
  obtain ⟨g, o, rfl, y0⟩ := (hr.below hb5).word (k := 0) (by decide)
  obtain ⟨g1, o1, e1, y1⟩ := (hr.below hb5).word (k := 1) (by decide)
  cases e1
  obtain ⟨g', o', rfl, y2⟩ := hr'.word (k := 0) (by decide)
  obtain ⟨g2, o2, e2, y3⟩ := hr'.word (k := 1) (by decide)
  cases e2
  clear h5 hm4 hn4 bb4 hb5 bx wx hx hr hr'
  simp only [List.getElem_cons_zero, List.getElem_cons_succ, Nat.add_zero] at y0 y1 y2 y3
  go_wp2_with fail
  refine (len_any _ _ [] _ w5 hn5).mono ?_
  rintro e w6 ⟨rfl, e6⟩
  subst e6
  go_wp2_with fail
  refine (mwords_any _ _ [] _ w5 hn5).mono ?_
  rintro e w6 ⟨rfl, e6⟩
  subst e6
  rw [wds0]
  clear y0 y1 y2 y3
  go_wp2_with fail
  refine (of_any _ _ [] _ 0 w5 (by decide) (by omega) hn5 (by decide)).mono ?_
  intro e w6 h6
  rw [wds0] at h6
  obtain ⟨A6, c6, x6, rfl, _, _, _, _, _, _, _, hb6⟩ := h6.out
  have hn6 := hn5.below (by omega) hb6
  have bb6 := below_go bb5 hb6
  clear h6 hn5 bb5 hb6
  go_wp2_with fail
  refine (symbols_any _ _ [] _ w6 (by decide) hn6).mono ?_
  intro e w7 h7
  obtain ⟨A7, c7, rfl, _, _, _, _, hb7⟩ := h7.out
  have HY := Lib.hid (Yes.of (below_go bb6 hb7))
  clear h7 hn6 bb6 hb7
  have e0 : (symU []).length = 0 := rfl
  rw [e0]
  go_wp2_with fail
  go_ret
  exact HY.out

/-! ### The row's step -/
theorem own : ownKnob Try.prog.godebug = none := by kernel_rfl
theorem laidOut : laidOutB Try.prog = true := by kernel_rfl

theorem contract (H : Type) (enc : TypeId × Value → H) (W : World) (base : Nat) (args : Array Value) (ds gs : List (DataW H)) (before : List MemPlace)
    (hval : ∀ (j : Nat) t v, Try.f3.params[j]? = some t → args[j]? = some v → Value.okWide Try.prog W .any base t v)
    (hW : DataW.Whole enc Try.prog Try.f3.params.toList Rows.maskKnownSpec.vars false W args.toList ds gs before) :
    Calls Try.prog 3 args W fun e W' => ∃ v, e = .returned v ∧ Rows.maskKnownSpec.post enc Try.prog Try.f3 false true false false W args v W' := by
  have hW' := hW
  obtain ⟨p, q, hA0, hV, rfl, hfz, hnd⟩ := hW
  have hA : DataW.TrodAll enc Try.prog W 0 (fun _ => true) true Try.f3.params.toList args.toList ds p := hA0
  rw [Try.params3] at hA
  obtain ⟨rfl, rfl, rfl⟩ := trodAll_none hA
  obtain ⟨rfl, rfl⟩ := trodVars_none hV
  clear hA0
  refine (maskKnown_walk  W ).mono fun e W' ⟨he, bel⟩ => ?_
  subst he
  exact ⟨_, rfl, _, _, _, [], _, [], hW', trodAll_mk1 (shut_bool Try.underlying4 _), trodAll_mk0, rfl, bel.frame _, fun h => by cases h⟩

set_option maxRecDepth 100000 in
theorem lifted (os : Os) (started : os.Started) (H : Type) (enc : TypeId × Value → H) :
    ReturnsInHanded {} Try.checked os 3 .any (Rows.maskKnownSpec.pre6 enc Try.prog Try.f3 Rows.maskKnownRow.domain false) (Rows.maskKnownSpec.post enc Try.prog Try.f3 false true false false) := by
  refine returnsInHanded_of_change (C := Try.checked) own started (by kernel_rfl) Try.func3
    (ChangeSpec.witness6 (enc := enc) (C := Try.checked) false ⟨#[], #[], []⟩ 8 (by kernel_rfl) (by kernel_rfl) (by kernel_rfl) (by kernel_rfl)) ?_
  intro W base args ds gs before hval hW _ _
  exact contract H enc W base args ds gs before hval hW

/-- The statement. -/
theorem proved : Rows.MaskKnownSaid :=
  OpenClaim.holds_of_wide 3 Try.f3 rfl rfl rfl rfl rfl rfl rfl ⟨rfl, rfl, rfl, rfl, rfl⟩ rfl rfl rfl rfl rfl (by kernel_rfl) Try.func3 (by kernel_rfl)
    (of_decide_eq_true (by kernel_rfl)) (by unfold Func.isWrapper; first | (rw [if_pos (by decide +kernel)]; kernel_rfl) | (rw [if_neg (by decide +kernel)]; exact ⟨rfl, rfl⟩))
    (fun os started H enc _ => lifted os started H enc)

end Go.Proofs.Ythmfolekohomiaa.maskKnownP
