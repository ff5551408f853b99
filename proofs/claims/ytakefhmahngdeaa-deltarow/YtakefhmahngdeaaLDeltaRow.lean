/-
  Proved: for every input tattinglaw12.DeltaRow returns true, and its arguments read afterwards as before.
-/
import Derived.Test.YtakefhmahngdeaaAwake12
import Derived.Test.YtakefhmahngdeaaArgs
import Derived.Test.YtakefhmahngdeaaDr1
import Derived.Test.YtakefhmahngdeaaDlQ
import Derived.BigQuiet
namespace Go.Proofs.Ytakefhmahngdeaa.deltaRowP
open Go.ChangeShapes Go.WideShapes Go.ChangeAt Go.RowKit
open Go.ChangeMaps (open_string shut_string)

/-- The head of a round: so many steps are as they were told. -/
def DrRel (n : Nat) (w : World) (i : Value) (wr : World) : Prop := ∃ k q : Nat, k ≤ n ∧ i = .int .i64 (k : Int) ∧ wr = w.drewN q

set_option maxRecDepth 100000 in
set_option maxHeartbeats 1600000 in
theorem deltaRow_walk (f : Int) (Ad : Option Addr) (nd cd : Nat) (d : List UInt8) (w : World) (hf : (Lit.int .i64 f).wf = true) (hd : ArgB w Ad nd cd d) :
    Calls Try.prog 5 #[.int .i64 f, .slice Ad nd cd] w (Yes w) := by
  have Wf : Hid (I64 f) := bounds_i64 hf
  clear hf
  obtain ⟨hnd, hcd, hmd, r_d, hnild⟩ := hd
  have Hd := Lib.hid hnd
  clear hnd
  unfold maxLen at hmd
  by_cases gd : nd ≤ 60
  case neg =>
    go_enter Try.func5, Try.ntmps5
    go_wp2_with fail
    refine (awake12 _).mono ?_
    rintro e w1 ⟨rfl, hb1⟩
    go_wp2_with fail
    go_ret
    exact Yes.of hb1
  go_enter Try.func5, Try.ntmps5
  go_wp2_with fail
  refine (awake12 _).mono ?_
  rintro e w1 ⟨rfl, hb⟩
  have B := below_go (Below.refl _ _) hb
  replace r_d := r_d.below B
  have bb := B
  clear B hb
  go_wp2_with fail
  refine (prow_any f _ nd _ d _ Hd.out (by omega) r_d).mono ?_
  rintro e w2 ⟨v, rfl, hv, hb⟩
  have B := below_go (Below.refl _ _) hb
  replace r_d := r_d.below B
  replace bb := below_go bb B
  clear B hb
  have Hx : Hid ((rowDL f d).length = nd + 1) := by show _ = _; rw [rowDL_length, Hd.out]
  rw [Hx.out] at hv
  obtain ⟨V_x, c_x, rfl, hq_x, _, r_x, _⟩ := own_slice hv
  clear hv
  go_wp2_with fail
  refine (rrow_any f _ nd _ d _ Hd.out (by omega) r_d).mono ?_
  rintro e w3 ⟨v, rfl, hv, hb⟩
  have B := below_go (Below.refl _ _) hb
  replace r_d := r_d.below B
  replace r_x := r_x.below B
  replace bb := below_go bb B
  clear B hb
  have Hy : Hid ((rowDL f d).length = nd + 1) := by show _ = _; rw [rowDL_length, Hd.out]
  rw [Hy.out] at hv
  obtain ⟨V_y, c_y, rfl, hq_y, _, r_y, _⟩ := own_slice hv
  clear hv
  go_wp2_with fail
  refine (sameInts_any _ _ (nd + 1) (nd + 1) _ _ (rowDL f d) (rowDL f d) _ Hx.out Hx.out (by omega) r_x r_y).mono ?_
  rintro e w4 ⟨rfl, q, hq⟩
  have hb := below_of hq
  clear hq
  have B := below_go (Below.refl _ _) hb
  replace r_d := r_d.below B
  replace r_x := r_x.below B
  replace r_y := r_y.below B
  replace bb := below_go bb B
  clear B hb
  rw [show decide (rowDL f d = rowDL f d) = true by simp]
  clear r_y
  by_cases hf : f ≤ 4611686018427387904
  · obtain ⟨t1, t2, t3⟩ := forth (first := f) (d := d) Wf.out hf (by rw [Hd.out]; omega)
    have T1 := Lib.hid t1
    have T2 := Lib.hid t2
    have T3 := Lib.hid t3
    clear t1 t2 t3
    go_wp2_with fail
    refine (of_any _ (nd + 1) _ (rowDL f d) _ Hx.out (by omega) hq_x (rowDL_i64 d Wf.out) r_x).mono ?_
    rintro e w5 ⟨v, rfl, hv, hb⟩
    have B := below_go (Below.refl _ _) hb
    replace r_d := r_d.below B
    replace r_x := r_x.below B
    replace bb := below_go bb B
    clear B hb
    rw [T2.out]
    unfold OwnB at hv
    rw [T1.out, stpS_length, Hd.out] at hv
    obtain ⟨V_z, c_z, rfl, _, _, r_z, _⟩ := own_slice hv
    clear hv
    clear r_x
    have hz1 : ((nd : Int) != (nd : Int)) = false := by simp
    go_wp2_with fail
    go_loopw [8] (fun i wr => DrRel nd w5 i wr) (fun i _ => nd - (intOf i).toNat)
    case atStart => exact ⟨0, 0, Nat.zero_le _, rfl, rfl⟩
    case round =>
      obtain ⟨k, q, hk, rfl, rfl⟩ := hrel
      by_cases hlt : k < nd
      · obtain ⟨g, o, rfl, hc⟩ := r_d.byte (k := k) (by rw [Hd.out]; exact hlt)
        obtain ⟨g', o', rfl, hc'⟩ := r_z.byte (k := k) (by rw [stpS_length]; exact hlt)
        have e0 : (stpS (rowDL f d) nd)[k]'(by rw [stpS_length]; exact hlt) = if bget d k = 0 then 0 else 1 := by
          have h1 := stpS_get (rowDL f d) nd k hlt
          rw [List.getElem?_eq_getElem (by rw [stpS_length]; exact hlt)] at h1
          rw [Option.some.inj h1]
          exact T3.out k (by rw [Hd.out]; exact hlt)
        rw [e0, bget_of (List.getElem?_eq_getElem (by rw [Hd.out]; exact hlt))] at hc'
        generalize d[k]'(by rw [Hd.out]; exact hlt) = b at *
        clear e0 r_d r_z T1 T2 T3
        by_cases hb0 : b = 0
        · have e1 : ((b.toNat : Int) != 0) = false := by subst hb0; rfl
          have hc2 : w5.cell? ⟨g', o' + k, none⟩ = some (.int .u8 0) := by rw [hc', if_pos hb0]; rfl
          clear hb0 hc'
          go_wp2_with fail
          go_quiet (fail)
          go_wp2_with fail
          go_roundw
          case rel => exact ⟨k + 1, q + nq, by omega, by go_num, rfl⟩
          case measure => simp [intOf]; omega
        · have e1 := byte_ne hb0
          have hc2 : w5.cell? ⟨g', o' + k, none⟩ = some (.int .u8 1) := by rw [hc', if_neg hb0]; rfl
          clear hb0 hc'
          go_wp2_with fail
          go_quiet (fail)
          go_wp2_with fail
          go_roundw
          case rel => exact ⟨k + 1, q + nq, by omega, by go_num, rfl⟩
          case measure => simp [intOf]; omega
      · have bb2 := below_drewN bb q
        clear bb r_d r_z T1 T2 T3
        go_wp2_with fail
        go_ret
        exact Yes.of bb2
  · go_wp2_with fail
    go_ret
    exact Yes.of bb

/-! ### The row's step -/
theorem own : ownKnob Try.prog.godebug = none := by kernel_rfl
theorem laidOut : laidOutB Try.prog = true := by kernel_rfl

theorem contract (H : Type) (enc : TypeId × Value → H) (W : World) (base : Nat) (args : Array Value) (ds gs : List (DataW H)) (before : List MemPlace)
    (hval : ∀ (j : Nat) t v, Try.f5.params[j]? = some t → args[j]? = some v → Value.okWide Try.prog W .any base t v)
    (hW : DataW.Whole enc Try.prog Try.f5.params.toList Rows.deltaRowSpec.vars false W args.toList ds gs before) :
    Calls Try.prog 5 args W fun e W' => ∃ v, e = .returned v ∧ Rows.deltaRowSpec.post enc Try.prog Try.f5 false true false false W args v W' := by
  have hW' := hW
  obtain ⟨p, q, hA0, hV, rfl, hfz, hnd⟩ := hW
  have hA : DataW.TrodAll enc Try.prog W 0 (fun _ => true) true Try.f5.params.toList args.toList ds p := hA0
  rw [Try.params5] at hA hval
  obtain ⟨v0, vs0, d0, ds0, p0, q0, hargs, rfl, rfl, h0, r0⟩ := trodAll_cons hA
  obtain ⟨v1, vs1, d1, ds1, p1, q1, rfl, rfl, rfl, h1, r1⟩ := trodAll_cons r0
  obtain ⟨rfl, rfl, rfl⟩ := trodAll_nil r1
  obtain rfl : args = #[v0, v1] := by cases args; simp_all
  obtain ⟨rfl, rfl⟩ := trodVars_none hV
  have k0 := h0
  have lt0 : ∀ x ∈ p0, x.block < W.heap.size := by obtain ⟨m, hm⟩ := k0; exact DataW.trod_lt m _ _ _ hm
  obtain ⟨a0, e0, _, _, w0⟩ := open_int Try.underlying3 (hval 0 3 v0 rfl rfl) h0
  subst e0
  have k1 := h1
  have lt1 : ∀ x ∈ p1, x.block < W.heap.size := by obtain ⟨m, hm⟩ := k1; exact DataW.trod_lt m _ _ _ hm
  obtain ⟨A1, n1, c1, e1⟩ := okWide_slice Try.underlying23 (hval 1 23 v1 rfl rfl)
  subst e1
  obtain ⟨l1, w1⟩ := open_argB Try.underlying23 Try.underlying5 (by kernel_rfl) h1
  clear hA0
  refine (deltaRow_walk a0 A1 n1 c1 l1 W w0 w1).mono fun e W' ⟨he, bel⟩ => ?_
  subst he
  exact ⟨_, rfl, _, _, _, [], _, [], hW', trodAll_mk1 (shut_bool Try.underlying4 _), (trodAll_cons_mk (Below.trod laidOut (by kernel_rfl) (of_decide_eq_true (by kernel_rfl)) k0 bel lt0) (trodAll_cons_mk (Below.trod laidOut (by kernel_rfl) (of_decide_eq_true (by kernel_rfl)) k1 bel lt1) trodAll_mk0)), rfl, bel.frame _, fun h => by cases h⟩

set_option maxRecDepth 100000 in
theorem lifted (os : Os) (started : os.Started) (H : Type) (enc : TypeId × Value → H) :
    ReturnsInHanded {} Try.checked os 5 .any (Rows.deltaRowSpec.pre6 enc Try.prog Try.f5 Rows.deltaRowRow.domain false) (Rows.deltaRowSpec.post enc Try.prog Try.f5 false true false false) := by
  refine returnsInHanded_of_change (C := Try.checked) own started (by kernel_rfl) Try.func5
    (ChangeSpec.witness6 (enc := enc) (C := Try.checked) false ⟨#[], #[.int .i64 0, .slice none 0 0], []⟩ 8 (by kernel_rfl) (by kernel_rfl) (by kernel_rfl) (by kernel_rfl)) ?_
  intro W base args ds gs before hval hW _ _
  exact contract H enc W base args ds gs before hval hW

/-- The statement. -/
theorem proved : Rows.DeltaRowSaid :=
  OpenClaim.holds_of_wide 5 Try.f5 rfl rfl rfl rfl rfl rfl rfl ⟨rfl, rfl, rfl, rfl, rfl⟩ rfl rfl rfl rfl rfl (by kernel_rfl) Try.func5 (by kernel_rfl)
    (of_decide_eq_true (by kernel_rfl)) (by unfold Func.isWrapper; first | (rw [if_pos (by decide +kernel)]; kernel_rfl) | (rw [if_neg (by decide +kernel)]; exact ⟨rfl, rfl⟩))
    (fun os started H enc _ => lifted os started H enc)

end Go.Proofs.Ytakefhmahngdeaa.deltaRowP
