/-
  Proved: for every input tattinglaw12.DeltaKeys returns true, and its arguments read afterwards as before.
-/
import Derived.Test.YtakefhmahngdeaaAwake12
import Derived.Test.YtakefhmahngdeaaArgs
import Derived.Test.YtakefhmahngdeaaDr2
namespace Go.Proofs.Ytakefhmahngdeaa.deltaKeysP
open Go.ChangeShapes Go.WideShapes Go.ChangeAt Go.RowKit
open Go.ChangeMaps (open_string shut_string)

theorem keyP (A : Option Addr) (n c : Nat) (d : List UInt8) (at' t : Int) (w : World) (hn : d.length = n) (hb : n ≤ 1048576) (hc : n ≤ c) (h1 : I64 at') (h2 : I64 t) (hr : Row w A (bv d)) :
    Calls Try.prog 13 #[.slice A n c, .int .i64 at', .int .i64 t] w fun e w' => e = .returned (.int .i64 (keyL d at' t : Nat)) ∧ Below w.heap.size w w' := by
  refine (pkey_any A n c d at' t w hn hb hc h1 h2 hr).mono ?_
  rintro e w' ⟨rfl, rfl⟩
  exact ⟨rfl, Below.refl _ _⟩
theorem keyR (A : Option Addr) (n c : Nat) (d : List UInt8) (at' t : Int) (w : World) (hn : d.length = n) (hb : n ≤ 1048576) (h1 : I64 at') (h2 : I64 t) (hr : Row w A (bv d)) :
    Calls Try.prog 18 #[.slice A n c, .int .i64 at', .int .i64 t] w fun e w' => e = .returned (.int .i64 (keyL d at' t : Nat)) ∧ Below w.heap.size w w' := by
  refine (rkey_any A n c d at' t w hn hb h1 h2 hr).mono ?_
  rintro e w' ⟨rfl, rfl⟩
  exact ⟨rfl, Below.refl _ _⟩

set_option maxRecDepth 100000 in
set_option maxHeartbeats 1600000 in
theorem deltaKeys_walk (Ad : Option Addr) (nd cd : Nat) (d : List UInt8) (p : Int) (t : Int) (q : Int) (w : World) (hd : ArgB w Ad nd cd d) (hp : (Lit.int .i64 p).wf = true) (ht : (Lit.int .i64 t).wf = true) (hq : (Lit.int .i64 q).wf = true) :
    Calls Try.prog 6 #[.slice Ad nd cd, .int .i64 p, .int .i64 t, .int .i64 q] w (Yes w) := by
  obtain ⟨hnd, hcd, hmd, r_d, hnild⟩ := hd
  have Hd := Lib.hid hnd
  clear hnd
  unfold maxLen at hmd
  have Wp : Hid (I64 p) := bounds_i64 hp
  clear hp
  have Wt : Hid (I64 t) := bounds_i64 ht
  clear ht
  have Wq : Hid (I64 q) := bounds_i64 hq
  clear hq
  by_cases gd : nd ≤ 60
  case neg =>
    go_enter Try.func6, Try.ntmps6
    go_wp2_with fail
    refine (awake12 _).mono ?_
    rintro e w1 ⟨rfl, hb1⟩
    go_wp2_with fail
    go_ret
    exact Yes.of hb1
  go_enter Try.func6, Try.ntmps6
  go_wp2_with fail
  refine (awake12 _).mono ?_
  rintro e w1 ⟨rfl, hb⟩
  have B := below_go (Below.refl _ _) hb
  replace r_d := r_d.below B
  have bb := B
  clear B hb
  go_wp2_with fail
  refine (keyP _ nd _ d p t _ Hd.out (by omega) hcd Wp.out Wt.out r_d).mono ?_
  rintro e w2 ⟨rfl, hb⟩
  have B := below_go (Below.refl _ _) hb
  replace r_d := r_d.below B
  replace bb := below_go bb B
  clear B hb
  go_wp2_with fail
  refine (keyR _ nd _ d p t _ Hd.out (by omega) Wp.out Wt.out r_d).mono ?_
  rintro e w3 ⟨rfl, hb⟩
  have B := below_go (Below.refl _ _) hb
  replace r_d := r_d.below B
  replace bb := below_go bb B
  clear B hb
  generalize keyL d p t = K at *
  go_wp2_with fail
  refine (pput_any _ nd _ d p t q _ Hd.out (by omega) Wp.out Wt.out r_d).mono ?_
  rintro e w4 ⟨v, rfl, hv, hb⟩
  have B := below_go (Below.refl _ _) hb
  replace r_d := r_d.below B
  replace bb := below_go bb B
  clear B hb
  have Hx : Hid ((putL d p t q).length = nd) := by show _ = _; rw [putL_length, Hd.out]
  unfold OwnB at hv
  rw [Hx.out] at hv
  obtain ⟨V_x, c_x, rfl, _, _, r_x, _⟩ := own_slice hv
  clear hv
  go_wp2_with fail
  refine (rput_any _ nd _ d p t q _ Hd.out (by omega) Wp.out Wt.out r_d hnild).mono ?_
  rintro e w5 ⟨v, rfl, hv, hb⟩
  have B := below_go (Below.refl _ _) hb
  replace r_d := r_d.below B
  replace r_x := r_x.below B
  replace bb := below_go bb B
  clear B hb
  have Hy : Hid ((putL d p t q).length = nd) := by show _ = _; rw [putL_length, Hd.out]
  unfold OwnB at hv
  rw [Hy.out] at hv
  obtain ⟨V_y, c_y, rfl, _, _, r_y, _⟩ := own_slice hv
  clear hv
  generalize putL d p t q = L at *
  go_wp2_with fail
  refine (sameB _ _ nd nd _ _ L L _ Hx.out Hx.out r_x r_y).mono ?_
  rintro e w6 ⟨rfl, hb⟩
  have B := below_go (Below.refl _ _) hb
  replace r_d := r_d.below B
  replace r_x := r_x.below B
  replace r_y := r_y.below B
  replace bb := below_go bb B
  clear B hb
  rw [show decide (L = L) = true by simp]
  go_wp2_with fail
  go_ret
  exact Yes.of bb

/-! ### The row's step -/
theorem own : ownKnob Try.prog.godebug = none := by kernel_rfl
theorem laidOut : laidOutB Try.prog = true := by kernel_rfl

theorem contract (H : Type) (enc : TypeId × Value → H) (W : World) (base : Nat) (args : Array Value) (ds gs : List (DataW H)) (before : List MemPlace)
    (hval : ∀ (j : Nat) t v, Try.f6.params[j]? = some t → args[j]? = some v → Value.okWide Try.prog W .any base t v)
    (hW : DataW.Whole enc Try.prog Try.f6.params.toList Rows.deltaKeysSpec.vars false W args.toList ds gs before) :
    Calls Try.prog 6 args W fun e W' => ∃ v, e = .returned v ∧ Rows.deltaKeysSpec.post enc Try.prog Try.f6 false true false false W args v W' := by
  have hW' := hW
  obtain ⟨p, q, hA0, hV, rfl, hfz, hnd⟩ := hW
  have hA : DataW.TrodAll enc Try.prog W 0 (fun _ => true) true Try.f6.params.toList args.toList ds p := hA0
  rw [Try.params6] at hA hval
  obtain ⟨v0, vs0, d0, ds0, p0, q0, hargs, rfl, rfl, h0, r0⟩ := trodAll_cons hA
  obtain ⟨v1, vs1, d1, ds1, p1, q1, rfl, rfl, rfl, h1, r1⟩ := trodAll_cons r0
  obtain ⟨v2, vs2, d2, ds2, p2, q2, rfl, rfl, rfl, h2, r2⟩ := trodAll_cons r1
  obtain ⟨v3, vs3, d3, ds3, p3, q3, rfl, rfl, rfl, h3, r3⟩ := trodAll_cons r2
  obtain ⟨rfl, rfl, rfl⟩ := trodAll_nil r3
  obtain rfl : args = #[v0, v1, v2, v3] := by cases args; simp_all
  obtain ⟨rfl, rfl⟩ := trodVars_none hV
  have k0 := h0
  have lt0 : ∀ x ∈ p0, x.block < W.heap.size := by obtain ⟨m, hm⟩ := k0; exact DataW.trod_lt m _ _ _ hm
  obtain ⟨A0, n0, c0, e0⟩ := okWide_slice Try.underlying23 (hval 0 23 v0 rfl rfl)
  subst e0
  obtain ⟨l0, w0⟩ := open_argB Try.underlying23 Try.underlying5 (by kernel_rfl) h0
  have k1 := h1
  have lt1 : ∀ x ∈ p1, x.block < W.heap.size := by obtain ⟨m, hm⟩ := k1; exact DataW.trod_lt m _ _ _ hm
  obtain ⟨a1, e1, _, _, w1⟩ := open_int Try.underlying3 (hval 1 3 v1 rfl rfl) h1
  subst e1
  have k2 := h2
  have lt2 : ∀ x ∈ p2, x.block < W.heap.size := by obtain ⟨m, hm⟩ := k2; exact DataW.trod_lt m _ _ _ hm
  obtain ⟨a2, e2, _, _, w2⟩ := open_int Try.underlying3 (hval 2 3 v2 rfl rfl) h2
  subst e2
  have k3 := h3
  have lt3 : ∀ x ∈ p3, x.block < W.heap.size := by obtain ⟨m, hm⟩ := k3; exact DataW.trod_lt m _ _ _ hm
  obtain ⟨a3, e3, _, _, w3⟩ := open_int Try.underlying3 (hval 3 3 v3 rfl rfl) h3
  subst e3
  clear hA0
  refine (deltaKeys_walk A0 n0 c0 l0 a1 a2 a3 W w0 w1 w2 w3).mono fun e W' ⟨he, bel⟩ => ?_
  subst he
  exact ⟨_, rfl, _, _, _, [], _, [], hW', trodAll_mk1 (shut_bool Try.underlying4 _), (trodAll_cons_mk (Below.trod laidOut (by kernel_rfl) (of_decide_eq_true (by kernel_rfl)) k0 bel lt0) (trodAll_cons_mk (Below.trod laidOut (by kernel_rfl) (of_decide_eq_true (by kernel_rfl)) k1 bel lt1) (trodAll_cons_mk (Below.trod laidOut (by kernel_rfl) (of_decide_eq_true (by kernel_rfl)) k2 bel lt2) (trodAll_cons_mk (Below.trod laidOut (by kernel_rfl) (of_decide_eq_true (by kernel_rfl)) k3 bel lt3) trodAll_mk0)))), rfl, bel.frame _, fun h => by cases h⟩

set_option maxRecDepth 100000 in
theorem lifted (os : Os) (started : os.Started) (H : Type) (enc : TypeId × Value → H) :
    ReturnsInHanded {} Try.checked os 6 .any (Rows.deltaKeysSpec.pre6 enc Try.prog Try.f6 Rows.deltaKeysRow.domain false) (Rows.deltaKeysSpec.post enc Try.prog Try.f6 false true false false) := by
  refine returnsInHanded_of_change (C := Try.checked) own started (by kernel_rfl) Try.func6
    (ChangeSpec.witness6 (enc := enc) (C := Try.checked) false ⟨#[], #[.slice none 0 0, .int .i64 0, .int .i64 0, .int .i64 0], []⟩ 8 (by kernel_rfl) (by kernel_rfl) (by kernel_rfl) (by kernel_rfl)) ?_
  intro W base args ds gs before hval hW _ _
  exact contract H enc W base args ds gs before hval hW

/-- The statement. -/
theorem proved : Rows.DeltaKeysSaid :=
  OpenClaim.holds_of_wide 6 Try.f6 rfl rfl rfl rfl rfl rfl rfl ⟨rfl, rfl, rfl, rfl, rfl⟩ rfl rfl rfl rfl rfl (by kernel_rfl) Try.func6 (by kernel_rfl)
    (of_decide_eq_true (by kernel_rfl)) (by unfold Func.isWrapper; first | (rw [if_pos (by decide +kernel)]; kernel_rfl) | (rw [if_neg (by decide +kernel)]; exact ⟨rfl, rfl⟩))
    (fun os started H enc _ => lifted os started H enc)

end Go.Proofs.Ytakefhmahngdeaa.deltaKeysP
