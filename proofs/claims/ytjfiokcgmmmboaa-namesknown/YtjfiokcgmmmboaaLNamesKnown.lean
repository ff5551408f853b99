/-
  Proved: tattinglaw2.NamesKnown returns true.
-/
import Derived.Test.YtjfiokcgmmmboaaAwake2
import Derived.Test.YtjfiokcgmmmboaaLawKit2
import Derived.Test.YtjfiokcgmmmboaaArgs
namespace Go.Proofs.Ytjfiokcgmmmboaa.namesKnownP
open Go.ChangeShapes Go.WideShapes Go.ChangeAt Go.RowKit
open Go.ChangeMaps (open_string shut_string)

set_option maxRecDepth 100000 in
set_option maxHeartbeats 8000000 in
theorem namesKnown_walk (w : World) : Calls Try.prog 3 #[] w (Yes w) := by
  have k0 := @lit0
  have k1 := @lit1
  have k2 := @lit2
  have k3 := @lit3
  go_enter Try.func3, Try.ntmps3
  go_wp2_with fail
  generalize hW1 : World.alloc _ _ = W1
  have p0 : Row W1 (some ⟨w.heap.size, 0, none⟩) (bv [97, 98]) := row_in (mk := (2, 3)) (t := 5) (by rw [← hW1]; exact (blk_old (blk_old (blk_old (blk_old (blk_old (blk_new _ _ _ (by simp)) _) _) _) _) _))
  have p1 : Row W1 (some ⟨w.heap.size + 1, 0, none⟩) (bv [98]) := row_in (mk := (1, 2)) (t := 5) (by rw [← hW1]; exact (blk_old (blk_old (blk_old (blk_old (blk_new _ _ _ (by simp)) _) _) _) _))
  have p2 : Row W1 (some ⟨w.heap.size + 2, 0, none⟩) (bv [97]) := row_in (mk := (1, 2)) (t := 5) (by rw [← hW1]; exact (blk_old (blk_old (blk_old (blk_new _ _ _ (by simp)) _) _) _))
  have p3 : Row W1 (some ⟨w.heap.size + 3, 0, none⟩) (bv [97, 98]) := row_in (mk := (2, 3)) (t := 5) (by rw [← hW1]; exact (blk_old (blk_old (blk_new _ _ _ (by simp)) _) _))
  have p4 : Row W1 (some ⟨w.heap.size + 4, 0, none⟩) (bv []) := row_in (mk := (0, 0)) (t := 5) (by rw [← hW1]; exact (blk_old (blk_new _ _ _ (by simp)) _))
  have pL : Row W1 (some ⟨w.heap.size + 5, 0, none⟩) [.slice (some ⟨w.heap.size, 0, none⟩) 2 2, .slice (some ⟨w.heap.size + 1, 0, none⟩) 1 1, .slice (some ⟨w.heap.size + 2, 0, none⟩) 1 1, .slice (some ⟨w.heap.size + 3, 0, none⟩) 2 2, .slice (some ⟨w.heap.size + 4, 0, none⟩) 0 0] := row_in (mk := (0, 0)) (t := 24) (by rw [← hW1]; exact (blk_new _ _ _ (by simp)))
  have pB : BSs W1 [.slice (some ⟨w.heap.size, 0, none⟩) 2 2, .slice (some ⟨w.heap.size + 1, 0, none⟩) 1 1, .slice (some ⟨w.heap.size + 2, 0, none⟩) 1 1, .slice (some ⟨w.heap.size + 3, 0, none⟩) 2 2, .slice (some ⟨w.heap.size + 4, 0, none⟩) 0 0] [[97, 98], [98], [97], [97, 98], []] := ((((((BSs.nil W1).snoc (bs_lit 2 p0)).snoc (bs_lit 1 p1)).snoc (bs_lit 1 p2)).snoc (bs_lit 2 p3)).snoc (bs_lit 0 p4))
  have pW : Below w.heap.size w W1 := by rw [← hW1]; exact (((((((Below.refl _ w).alloc (by first | (simp; done) | (simp; omega)) _).alloc (by first | (simp; done) | (simp; omega)) _).alloc (by first | (simp; done) | (simp; omega)) _).alloc (by first | (simp; done) | (simp; omega)) _).alloc (by first | (simp; done) | (simp; omega)) _).alloc (by first | (simp; done) | (simp; omega)) _)
  clear p0 p1 p2 p3 p4 hW1
  refine (nmSort_any _ 5 5 _ [[97, 98], [98], [97], [97, 98], []] W1 rfl (by decide) (by decide) pL pB).mono ?_
  rintro e w2 ⟨v, xs, rfl, hown, hbx, hb2⟩
  have e1 : sortU [[97, 98], [98], [97], [97, 98], []] = [[], [97], [97, 98], [98]] := by decide
  rw [e1] at hown hbx
  have hbw2 := pW.trans (hb2.mono pW.size)
  obtain ⟨D, cD, rfl, _, _, hD, _⟩ := own_slice hown
  have hR : Rises [[], [97], [97, 98], [98]] := by unfold Rises; decide
  have HR := Lib.hid hR
  clear e1 hR pL pB pW hb2
  go_wp2_with fail
  generalize hW2 : World.alloc _ _ = W2
  have t1 : Row W2 (some ⟨w2.heap.size, 0, none⟩) (bv [97, 98]) := row_in (mk := (2, 3)) (t := 5) (by rw [← hW2]; exact (blk_new _ _ _ rfl))
  have b1 : Below w2.heap.size w2 W2 := by rw [← hW2]; exact (Below.refl _ _).alloc (Nat.le_refl _) _
  clear hW2
  refine (nmFind_any D _ 4 cD 2 2 _ xs [[], [97], [97, 98], [98]] [97, 98] W2 rfl (by decide) rfl (own_below hown b1 (Nat.le_refl _)) (hbx.below b1) t1 HR.out).mono ?_
  rintro e w3 ⟨rfl, hb3⟩
  rw [show fnd [[], [97], [97, 98], [98]] [97, 98] = (2, true) by decide]
  have c3 := b1.trans (hb3.mono b1.size)
  have hbw3 := hbw2.trans (c3.mono hbw2.size)
  have hown3 := own_below hown c3 (Nat.le_refl _)
  have hbx3 := hbx.below c3
  clear t1 b1 hb3 c3 hown hbx hbw2 hD
  go_wp2_with fail
  generalize hW3 : World.alloc _ _ = W3
  have t1 : Row W3 (some ⟨w3.heap.size, 0, none⟩) (bv [99]) := row_in (mk := (1, 2)) (t := 5) (by rw [← hW3]; exact (blk_new _ _ _ rfl))
  have b1 : Below w3.heap.size w3 W3 := by rw [← hW3]; exact (Below.refl _ _).alloc (Nat.le_refl _) _
  clear hW3
  refine (nmFind_any D _ 4 cD 1 1 _ xs [[], [97], [97, 98], [98]] [99] W3 rfl (by decide) rfl (own_below hown3 b1 (Nat.le_refl _)) (hbx3.below b1) t1 HR.out).mono ?_
  rintro e w4 ⟨rfl, hb4⟩
  rw [show fnd [[], [97], [97, 98], [98]] [99] = (0, false) by decide]
  have c4 := b1.trans (hb4.mono b1.size)
  have hbw4 := hbw3.trans (c4.mono hbw3.size)
  have hown4 := own_below hown3 c4 (Nat.le_refl _)
  have hbx4 := hbx3.below c4
  clear t1 b1 hb4 c4 hown3 hbx3 hbw3
  go_wp2_with fail
  generalize hW4 : World.alloc _ _ = W4
  have p0 : Row W4 (some ⟨w4.heap.size, 0, none⟩) (bv [98]) := row_in (mk := (1, 2)) (t := 5) (by rw [← hW4]; exact (blk_old (blk_old (blk_new _ _ _ (by simp)) _) _))
  have p1 : Row W4 (some ⟨w4.heap.size + 1, 0, none⟩) (bv []) := row_in (mk := (0, 0)) (t := 5) (by rw [← hW4]; exact (blk_old (blk_new _ _ _ (by simp)) _))
  have pL : Row W4 (some ⟨w4.heap.size + 2, 0, none⟩) [.slice (some ⟨w4.heap.size, 0, none⟩) 1 1, .slice (some ⟨w4.heap.size + 1, 0, none⟩) 0 0] := row_in (mk := (0, 0)) (t := 24) (by rw [← hW4]; exact (blk_new _ _ _ (by simp)))
  have pB : BSs W4 [.slice (some ⟨w4.heap.size, 0, none⟩) 1 1, .slice (some ⟨w4.heap.size + 1, 0, none⟩) 0 0] [[98], []] := (((BSs.nil W4).snoc (bs_lit 1 p0)).snoc (bs_lit 0 p1))
  have pW : Below w4.heap.size w4 W4 := by rw [← hW4]; exact ((((Below.refl _ w4).alloc (by first | (simp; done) | (simp; omega)) _).alloc (by first | (simp; done) | (simp; omega)) _).alloc (by first | (simp; done) | (simp; omega)) _)
  clear p0 p1 hW4
  refine (nmIds_any D _ 4 cD 2 2 _ xs _ [[], [97], [97, 98], [98]] [[98], []] W4 rfl (by decide) rfl (by decide) (own_below hown4 pW (Nat.le_refl _)) (hbx4.below pW) pL pB HR.out).mono ?_
  rintro e w5 ⟨x, rfl, hx, hb5⟩
  rw [show allIn [[], [97], [97, 98], [98]] [[98], []] = true by decide]
  rw [show idsU [[], [97], [97, 98], [98]] [[98], []] = [3, 0] by decide] at hx
  obtain ⟨X, cX, rfl, _, _, hX5, _⟩ := own_slice hx
  have c5 := pW.trans (hb5.mono pW.size)
  have hbw5 := hbw4.trans (c5.mono hbw4.size)
  have hown5 := own_below hown4 c5 (Nat.le_refl _)
  have hbx5 := hbx4.below c5
  clear pL pB pW hb5 c5 hown4 hbx4 hbw4 hx
  go_wp2_with fail
  generalize hW5 : World.alloc _ _ = W5
  have p0 : Row W5 (some ⟨w5.heap.size, 0, none⟩) (bv [98]) := row_in (mk := (1, 2)) (t := 5) (by rw [← hW5]; exact (blk_old (blk_old (blk_new _ _ _ (by simp)) _) _))
  have p1 : Row W5 (some ⟨w5.heap.size + 1, 0, none⟩) (bv [98, 98]) := row_in (mk := (2, 3)) (t := 5) (by rw [← hW5]; exact (blk_old (blk_new _ _ _ (by simp)) _))
  have pL : Row W5 (some ⟨w5.heap.size + 2, 0, none⟩) [.slice (some ⟨w5.heap.size, 0, none⟩) 1 1, .slice (some ⟨w5.heap.size + 1, 0, none⟩) 2 2] := row_in (mk := (0, 0)) (t := 24) (by rw [← hW5]; exact (blk_new _ _ _ (by simp)))
  have pB : BSs W5 [.slice (some ⟨w5.heap.size, 0, none⟩) 1 1, .slice (some ⟨w5.heap.size + 1, 0, none⟩) 2 2] [[98], [98, 98]] := (((BSs.nil W5).snoc (bs_lit 1 p0)).snoc (bs_lit 2 p1))
  have pW : Below w5.heap.size w5 W5 := by rw [← hW5]; exact ((((Below.refl _ w5).alloc (by first | (simp; done) | (simp; omega)) _).alloc (by first | (simp; done) | (simp; omega)) _).alloc (by first | (simp; done) | (simp; omega)) _)
  clear p0 p1 hW5
  refine (nmIds_any D _ 4 cD 2 2 _ xs _ [[], [97], [97, 98], [98]] [[98], [98, 98]] W5 rfl (by decide) rfl (by decide) (own_below hown5 pW (Nat.le_refl _)) (hbx5.below pW) pL pB HR.out).mono ?_
  rintro e w6 ⟨y, rfl, hy, hb6⟩
  rw [show allIn [[], [97], [97, 98], [98]] [[98], [98, 98]] = false by decide]
  rw [show idsU [[], [97], [97, 98], [98]] [[98], [98, 98]] = [] by decide] at hy
  obtain ⟨Y, cY, rfl, _, _, _, _⟩ := own_slice hy
  have c6 := pW.trans (hb6.mono pW.size)
  have hbw6 := hbw5.trans (c6.mono hbw5.size)
  have hown6 := own_below hown5 c6 (Nat.le_refl _)
  have hbx6 := hbx5.below c6
  have hX6 := hX5.below c6
  clear pL pB pW hb6 c6 hown5 hbx5 hbw5 hy hX5
  go_wp2_with fail
  refine (nmTwo_any none none 0 0 0 0 [] [] [] [] w6 rfl rfl (by decide) (by decide) (Row.nil _ _) (BSs.nil _) (fun _ => rfl) (Row.nil _ _) (BSs.nil _) (fun _ => rfl)).mono ?_
  rintro e w7 ⟨p, q, rfl, hp, hq, hb7⟩
  rw [show (((sortU ([] ++ [])).length : Nat) : Int) = 0 by decide]
  obtain ⟨P, cP, rfl, _, _, _, _⟩ := own_slice hp
  obtain ⟨Q, cQ, rfl, _, _, _, _⟩ := own_slice hq
  have hbw7 := hbw6.trans (hb7.mono hbw6.size)
  have hown7 := own_below hown6 hb7 (Nat.le_refl _)
  have hbx7 := hbx6.below hb7
  have hX7 := hX6.below hb7
  clear hb7 hown6 hbx6 hbw6 hX6 hp hq
  go_wp2_with fail
  refine (awake_yes _).mono ?_
  rintro e w8 ⟨rfl, hb8⟩
  have hbw8 := hbw7.trans (hb8.mono hbw7.size)
  have hown8 := own_below hown7 hb8 (Nat.le_refl _)
  have hbx8 := hbx7.below hb8
  have hX8 := hX7.below hb8
  clear hb8 hown7 hbx7 hbw7 hX7 k0 k1 k2 k3
  obtain ⟨g, o, A0, c0, rfl, hc0, _, _, r0, _⟩ := hbx8.cell (Row.of_own hown8) (k := 0) (by decide)
  obtain ⟨g1, o1, A1, c1, ho1, hc1, _, _, r1, _⟩ := hbx8.cell (Row.of_own hown8) (k := 1) (by decide)
  obtain ⟨g3, o3, A3, c3, ho3, hc3, _, _, r3, _⟩ := hbx8.cell (Row.of_own hown8) (k := 3) (by decide)
  cases ho1
  cases ho3
  have r1' : Row w8 A1 (bv [97]) := r1
  have r3' : Row w8 A3 (bv [98]) := r3
  have cv1 := conv_any (P := Try.prog) (n := 1) rfl r1' 24 9 5 c1 Try.underlying24 Try.underlying5 Try.underlying9
  have cv3 := conv_any (P := Try.prog) (n := 1) rfl r3' 24 9 5 c3 Try.underlying24 Try.underlying5 Try.underlying9
  have e0 : w8.cell? ⟨g, o, none⟩ = some (.slice A0 0 c0) := hc0
  have e1 : w8.cell? ⟨g, o + 1, none⟩ = some (.slice A1 1 c1) := hc1
  have e3 : w8.cell? ⟨g, o + 3, none⟩ = some (.slice A3 1 c3) := hc3
  clear hc0 hc1 hc3 r0 r1 r3 r1' r3' hown8 hbx8
  go_wp2_with fail
  refine (sameInts_any X _ 2 2 cX 2 [3, 0] [3, 0] _ rfl rfl (by decide) (hX8.alloc _) (Row.new _ _ _ _)).mono ?_
  rintro e w9 ⟨rfl, q, hw9⟩
  have hb9 : Below w8.heap.size w8 w9 := hw9 ▸ below_drewN ((Below.refl _ w8).alloc (Nat.le_refl _) _) q
  have hbw9 := hbw8.trans (hb9.mono hbw8.size)
  clear hw9 hb9 hX8 cv1 cv3 e0 e1 e3
  rw [show decide (([3, 0] : List Int) = [3, 0]) = true by decide]
  go_wp2_with fail
  go_ret
  exact ⟨by first | rfl | simp, hbw9⟩

/-! ### The row's step -/
theorem own : ownKnob Try.prog.godebug = none := by kernel_rfl
theorem laidOut : laidOutB Try.prog = true := by kernel_rfl

theorem contract (H : Type) (enc : TypeId × Value → H) (W : World) (base : Nat) (args : Array Value) (ds gs : List (DataW H)) (before : List MemPlace)
    (hval : ∀ (j : Nat) t v, Try.f3.params[j]? = some t → args[j]? = some v → Value.okWide Try.prog W .any base t v)
    (hW : DataW.Whole enc Try.prog Try.f3.params.toList Rows.namesKnownSpec.vars false W args.toList ds gs before) :
    Calls Try.prog 3 args W fun e W' => ∃ v, e = .returned v ∧ Rows.namesKnownSpec.post enc Try.prog Try.f3 false true false false W args v W' := by
  have hW' := hW
  obtain ⟨p, q, hA0, hV, rfl, hfz, hnd⟩ := hW
  have hA : DataW.TrodAll enc Try.prog W 0 (fun _ => true) true Try.f3.params.toList args.toList ds p := hA0
  rw [Try.params3] at hA
  obtain ⟨rfl, rfl, rfl⟩ := trodAll_none hA
  obtain ⟨rfl, rfl⟩ := trodVars_none hV
  clear hA0
  refine (namesKnown_walk  W ).mono fun e W' ⟨he, bel⟩ => ?_
  subst he
  exact ⟨_, rfl, _, _, _, [], _, [], hW', trodAll_mk1 (shut_bool Try.underlying4 _), trodAll_mk0, rfl, bel.frame _, fun h => by cases h⟩

set_option maxRecDepth 100000 in
theorem lifted (os : Os) (started : os.Started) (H : Type) (enc : TypeId × Value → H) :
    ReturnsInHanded {} Try.checked os 3 .any (Rows.namesKnownSpec.pre6 enc Try.prog Try.f3 Rows.namesKnownRow.domain false) (Rows.namesKnownSpec.post enc Try.prog Try.f3 false true false false) := by
  refine returnsInHanded_of_change (C := Try.checked) own started (by kernel_rfl) Try.func3
    (ChangeSpec.witness6 (enc := enc) (C := Try.checked) false ⟨#[], #[], []⟩ 8 (by kernel_rfl) (by kernel_rfl) (by kernel_rfl) (by kernel_rfl)) ?_
  intro W base args ds gs before hval hW _ _
  exact contract H enc W base args ds gs before hval hW

/-- The statement. -/
theorem proved : Rows.NamesKnownSaid :=
  OpenClaim.holds_of_wide 3 Try.f3 rfl rfl rfl rfl rfl rfl rfl ⟨rfl, rfl, rfl, rfl, rfl⟩ rfl rfl rfl rfl rfl (by kernel_rfl) Try.func3 (by kernel_rfl)
    (of_decide_eq_true (by kernel_rfl)) (by unfold Func.isWrapper; first | (rw [if_pos (by decide +kernel)]; kernel_rfl) | (rw [if_neg (by decide +kernel)]; exact ⟨rfl, rfl⟩))
    (fun os started H enc _ => lifted os started H enc)

end Go.Proofs.Ytjfiokcgmmmboaa.namesKnownP
