/-
  Proved: for every input tattinglaw2.NamesOrder returns true, and its arguments read afterwards as before.
-/
import Derived.Test.YtjfiokcgmmmboaaAwake2
import Derived.Test.YtjfiokcgmmmboaaRefT
import Derived.Test.YtjfiokcgmmmboaaLawKit2
import Derived.Test.YtjfiokcgmmmboaaArgs
namespace Go.Proofs.Ytjfiokcgmmmboaa.namesOrderP
open Go.ChangeShapes Go.WideShapes Go.ChangeAt Go.RowKit
open Go.ChangeMaps (open_string shut_string)

/-- What the rounds keep. -/
def OrdW (A A' X Y : Option Addr) (vs us : List Value) (la lz : List Bs) (w wr : World) : Prop :=
  Row wr A vs ∧ BSs wr vs la ∧ Row wr A' us ∧ BSs wr us lz ∧ Row wr X (iv (idsOf (sortU (la ++ lz)) la)) ∧ Row wr Y (iv (idsOf (sortU (la ++ lz)) lz)) ∧ Below w.heap.size w wr
theorem OrdW.drewN {A A' X Y : Option Addr} {vs us : List Value} {la lz : List Bs} {w wr : World} (h : OrdW A A' X Y vs us la lz w wr) (q : Nat) : OrdW A A' X Y vs us la lz w (wr.drewN q) := by
  obtain ⟨h1, h2, h3, h4, h5, h6, h7⟩ := h
  exact ⟨h1, h2, h3, h4, h5, h6, below_drewN h7 q⟩
def ORel (A A' X Y : Option Addr) (vs us : List Value) (la lz : List Bs) (w : World) (n : Nat) (i : Value) (wr : World) : Prop :=
  ∃ k : Nat, k ≤ n ∧ i = .int .i64 k ∧ OrdW A A' X Y vs us la lz w wr

theorem ids_at {ds ms : List Bs} {k : Nat} (hk : k < ms.length) : (idsOf ds ms)[k]'(by rw [idsOf_length]; exact hk) = (rank ds ms[k] : Int) := by simp [idsOf]

/-- What is left where a list is too long. -/
theorem out_few {A A' : Option Addr} {n c n' c' : Nat} {vs us : List Value} {la lz : List Bs} {w : World} (hA : ArgT w A n c vs la) (hB : ArgT w A' n' c' us lz) (h : (fewB la && fewB lz) = false) :
    Calls Try.prog 7 #[.slice A n c, .slice A' n' c'] w (Yes w) := by
  obtain ⟨hn, hc, hcm, hr, hbs, hnil⟩ := hA
  obtain ⟨hn', hc', hcm', hr', hbs', hnil'⟩ := hB
  have HN := Lib.hid hn
  have HN' := Lib.hid hn'
  clear hn hn'
  cases h1 : fewB la with
  | false =>
    have HF := Lib.hid h1
    clear h1 h
    go_enter Try.func7, Try.ntmps7
    go_wp2_with fail
    refine (awake_yes _).mono ?_
    rintro e w1 ⟨rfl, hb1⟩
    go_wp2_with fail
    refine (few_any A n c vs la _ HN.out (by omega) (hbs.below hb1).max (hr.below hb1) (hbs.below hb1)).mono ?_
    rintro e w' ⟨rfl, rfl⟩
    rw [HF.out]
    go_wp2_with fail
    go_ret
    exact ⟨rfl, hb1⟩
  | true =>
    have h2 : fewB lz = false := by rw [h1] at h; simpa using h
    have HF := Lib.hid h1
    have HF2 := Lib.hid h2
    clear h1 h2 h
    go_enter Try.func7, Try.ntmps7
    go_wp2_with fail
    refine (awake_yes _).mono ?_
    rintro e w1 ⟨rfl, hb1⟩
    go_wp2_with fail
    refine (few_any A n c vs la _ HN.out (by omega) (hbs.below hb1).max (hr.below hb1) (hbs.below hb1)).mono ?_
    rintro e w' ⟨rfl, rfl⟩
    rw [HF.out]
    go_wp2_with fail
    refine (few_any A' n' c' us lz _ HN'.out (by omega) (hbs'.below hb1).max (hr'.below hb1) (hbs'.below hb1)).mono ?_
    rintro e w' ⟨rfl, rfl⟩
    rw [HF2.out]
    go_wp2_with fail
    go_ret
    exact ⟨rfl, hb1⟩

set_option maxRecDepth 100000 in
set_option maxHeartbeats 1600000 in
theorem namesOrder_walk (A : Option Addr) (n c : Nat) (vs : List Value) (la : List (List UInt8)) (A' : Option Addr) (n' c' : Nat) (us : List Value) (lz : List (List UInt8)) (w : World) (hA : ArgT w A n c vs la) (hB : ArgT w A' n' c' us lz) :
    Calls Try.prog 7 #[.slice A n c, .slice A' n' c'] w (Yes w) := by
  cases hf : fewB la && fewB lz with
  | false => exact out_few hA hB hf
  | true =>
    obtain ⟨hn, hc, hcm, hr, hbs, hnil⟩ := hA
    obtain ⟨hn', hc', hcm', hr', hbs', hnil'⟩ := hB
    have HN := Lib.hid hn
    have HN' := Lib.hid hn'
    rw [Bool.and_eq_true] at hf
    have hl : n ≤ 40 := by rw [← hn]; exact fewB_len hf.1
    have hl' : n' ≤ 40 := by rw [← hn']; exact fewB_len hf.2
    have HF := Lib.hid hf
    clear hf hn hn'
    go_enter Try.func7, Try.ntmps7
    go_wp2_with fail
    refine (awake_yes _).mono ?_
    rintro e w1 ⟨rfl, hb1⟩
    have hr1 := hr.below hb1
    have hbs1 := hbs.below hb1
    have hr1' := hr'.below hb1
    have hbs1' := hbs'.below hb1
    clear hr hbs hr' hbs'
    go_wp2_with fail
    refine (few_any A n c vs la _ HN.out (by omega) hbs1.max hr1 hbs1).mono ?_
    rintro e w' ⟨rfl, rfl⟩
    rw [HF.out.1]
    go_wp2_with fail
    refine (few_any A' n' c' us lz _ HN'.out (by omega) hbs1'.max hr1' hbs1').mono ?_
    rintro e w' ⟨rfl, rfl⟩
    rw [HF.out.2]
    go_wp2_with fail
    refine (nmTwo_any A A' n c n' c' vs us la lz _ HN.out HN'.out (by omega) (by omega) hr1 hbs1 hnil hr1' hbs1' hnil').mono ?_
    rintro e w2 ⟨x, y, rfl, hx, hy, hb2⟩
    rw [HN.out] at hx
    rw [HN'.out] at hy
    obtain ⟨X, cX, rfl, _, _, hX, _⟩ := own_slice hx
    obtain ⟨Y, cY, rfl, _, _, hY, _⟩ := own_slice hy
    have hr2 := hr1.below hb2
    have hbs2 := hbs1.below hb2
    have hr2' := hr1'.below hb2
    have hbs2' := hbs1'.below hb2
    have hbw2 := hb1.trans (hb2.mono hb1.size)
    clear hx hy hr1 hbs1 hr1' hbs1' hb2 hb1
    go_wp2_with fail
    have hneq : ((n : Int) != (n : Int)) = false := by simp
    have hneq' : ((n' : Int) != (n' : Int)) = false := by simp
    go_loopw [8] (fun i wr => ORel A A' X Y vs us la lz w n i wr) (fun i _ => n - (intOf i).toNat)
    case atStart => exact ⟨0, Nat.zero_le _, rfl, hr2, hbs2, hr2', hbs2', hX, hY, hbw2⟩
    case round =>
      clear hr2 hbs2 hr2' hbs2' hX hY hbw2 hneq hneq'
      obtain ⟨i, hi, rfl, hO⟩ := hrel
      by_cases hlt : i < n
      · go_wp2_with fail
        go_loopw [9] (fun j wr => ORel A A' X Y vs us la lz w n' j wr) (fun j _ => n' - (intOf j).toNat)
        case atStart => exact ⟨0, Nat.zero_le _, rfl, hO⟩
        case round =>
          clear hO
          obtain ⟨j, hj, rfl, hO⟩ := hrel
          by_cases hlt2 : j < n'
          · have hia : i < la.length := by rw [HN.out]; exact hlt
            have hjz : j < lz.length := by rw [HN'.out]; exact hlt2
            obtain ⟨h1, h2, h3, h4, h5, h6, h7⟩ := hO
            obtain ⟨ga, oa, Aa, ca, rfl, hca, a1, a2, a3, a4⟩ := h2.cell h1 hia
            obtain ⟨gb, ob, Ab, cb, rfl, hcb, z1, z2, z3, z4⟩ := h4.cell h3 hjz
            obtain ⟨gx, ox, rfl, hcx⟩ := h5.int (k := i) (by rw [idsOf_length]; exact hia)
            obtain ⟨gy, oy, rfl, hcy⟩ := h6.int (k := j) (by rw [idsOf_length]; exact hjz)
            have R : ∀ q, ORel (some ⟨ga, oa, none⟩) (some ⟨gb, ob, none⟩) (some ⟨gx, ox, none⟩) (some ⟨gy, oy, none⟩) vs us la lz w n' (.int .i64 (j + 1 : Nat)) (wr.drewN q) := fun q =>
              ⟨j + 1, by omega, rfl, OrdW.drewN ⟨h1, h2, h3, h4, h5, h6, h7⟩ q⟩
            have RR := Lib.hid R
            have sa := fewB_each HF.out.1 _ (List.getElem_mem hia)
            have sz := fewB_each HF.out.2 _ (List.getElem_mem hjz)
            rw [ids_at hia] at hcx
            rw [ids_at hjz] at hcy
            have hR := rises_sortU (la ++ lz)
            have m1 := in_left (la := la) (lb2 := lz) _ (List.getElem_mem hia)
            have m2 := in_right (la := la) (lb2 := lz) _ (List.getElem_mem hjz)
            have q1 : (((rank (sortU (la ++ lz)) la[i] : Nat) : Int) == ((rank (sortU (la ++ lz)) lz[j] : Nat) : Int)) = decide (la[i] = lz[j]) := by
              rw [Bool.eq_iff_iff]
              simp only [beq_iff_eq, decide_eq_true_eq]
              rw [← rank_inj hR m1 m2]
              omega
            have q2 : decide (((rank (sortU (la ++ lz)) la[i] : Nat) : Int) < ((rank (sortU (la ++ lz)) lz[j] : Nat) : Int)) = lb la[i] lz[j] := by
              rw [Bool.eq_iff_iff, decide_eq_true_eq, ← rank_lt hR m1 m2]
              omega
            clear R h1 h2 h3 h4 h5 h6 h7 hR m1 m2
            generalize hrx : ((rank (sortU (la ++ lz)) la[i] : Nat) : Int) = rx at *
            generalize hry : ((rank (sortU (la ++ lz)) lz[j] : Nat) : Int) = ry at *
            clear hrx hry
            generalize hb1 : decide (la[i] = lz[j]) = b1 at *
            generalize hb2 : lb la[i] lz[j] = b2 at *
            have HB1 := Lib.hid hb1
            have HB2 := Lib.hid hb2
            clear hb1 hb2
            cases b1 <;> cases b2
            all_goals
              go_wp2_with fail
              go_quiet (first | (go_at_call 21; exact refSame_quiet Aa Ab _ _ ca cb _ la[i] lz[j] _ _ rfl rfl a3 z3 HB1.out) | (go_at_call 22; exact refBelow_quiet Aa Ab _ _ ca cb _ la[i] lz[j] _ _ rfl rfl (by omega) (by omega) a3 z3 HB2.out))
              go_wp2_with fail
              go_roundw
              case rel => exact RR.out _
              case measure => simp [intOf]; omega
          · have R : ORel A A' X Y vs us la lz w n (.int .i64 (i + 1 : Nat)) wr := ⟨i + 1, by omega, rfl, hO⟩
            clear hO
            go_wp2_with fail
            go_roundw
            case rel => first | exact R | ((repeat apply Exists.intro); exact ⟨R, rfl⟩)
            case measure => simp [intOf]; omega
      · obtain ⟨_, _, _, _, _, _, h7⟩ := hO
        go_wp2_with fail
        go_ret
        exact ⟨rfl, h7⟩

/-! ### The row's step -/
theorem own : ownKnob Try.prog.godebug = none := by kernel_rfl
theorem laidOut : laidOutB Try.prog = true := by kernel_rfl

theorem contract (H : Type) (enc : TypeId × Value → H) (W : World) (base : Nat) (args : Array Value) (ds gs : List (DataW H)) (before : List MemPlace)
    (hval : ∀ (j : Nat) t v, Try.f7.params[j]? = some t → args[j]? = some v → Value.okWide Try.prog W .any base t v)
    (hW : DataW.Whole enc Try.prog Try.f7.params.toList Rows.namesOrderSpec.vars false W args.toList ds gs before) :
    Calls Try.prog 7 args W fun e W' => ∃ v, e = .returned v ∧ Rows.namesOrderSpec.post enc Try.prog Try.f7 false true false false W args v W' := by
  have hW' := hW
  obtain ⟨p, q, hA0, hV, rfl, hfz, hnd⟩ := hW
  have hA : DataW.TrodAll enc Try.prog W 0 (fun _ => true) true Try.f7.params.toList args.toList ds p := hA0
  rw [Try.params7] at hA hval
  obtain ⟨v0, vs0, d0, ds0, p0, q0, hargs, rfl, rfl, h0, r0⟩ := trodAll_cons hA
  obtain ⟨v1, vs1, d1, ds1, p1, q1, rfl, rfl, rfl, h1, r1⟩ := trodAll_cons r0
  obtain ⟨rfl, rfl, rfl⟩ := trodAll_nil r1
  obtain rfl : args = #[v0, v1] := by cases args; simp_all
  obtain ⟨rfl, rfl⟩ := trodVars_none hV
  have k0 := h0
  have lt0 : ∀ x ∈ p0, x.block < W.heap.size := by obtain ⟨m, hm⟩ := k0; exact DataW.trod_lt m _ _ _ hm
  obtain ⟨A0, n0, c0, e0⟩ := okWide_slice Try.underlying22 (hval 0 22 v0 rfl rfl)
  subst e0
  obtain ⟨us0, l0, w0, r0d⟩ := open_argT Try.underlying22 Try.underlying24 Try.underlying5 (by kernel_rfl) (by kernel_rfl) h0
  have k1 := h1
  have lt1 : ∀ x ∈ p1, x.block < W.heap.size := by obtain ⟨m, hm⟩ := k1; exact DataW.trod_lt m _ _ _ hm
  obtain ⟨A1, n1, c1, e1⟩ := okWide_slice Try.underlying22 (hval 1 22 v1 rfl rfl)
  subst e1
  obtain ⟨us1, l1, w1, r1d⟩ := open_argT Try.underlying22 Try.underlying24 Try.underlying5 (by kernel_rfl) (by kernel_rfl) h1
  clear hA0
  refine (namesOrder_walk A0 n0 c0 us0 l0 A1 n1 c1 us1 l1 W w0 w1).mono fun e W' ⟨he, bel⟩ => ?_
  subst he
  exact ⟨_, rfl, _, _, _, [], _, [], hW', trodAll_mk1 (shut_bool Try.underlying4 _), (trodAll_cons_mk (Below.trod laidOut (by kernel_rfl) (of_decide_eq_true (by kernel_rfl)) k0 bel lt0) (trodAll_cons_mk (Below.trod laidOut (by kernel_rfl) (of_decide_eq_true (by kernel_rfl)) k1 bel lt1) trodAll_mk0)), rfl, bel.frame _, fun h => by cases h⟩

set_option maxRecDepth 100000 in
theorem lifted (os : Os) (started : os.Started) (H : Type) (enc : TypeId × Value → H) :
    ReturnsInHanded {} Try.checked os 7 .any (Rows.namesOrderSpec.pre6 enc Try.prog Try.f7 Rows.namesOrderRow.domain false) (Rows.namesOrderSpec.post enc Try.prog Try.f7 false true false false) := by
  refine returnsInHanded_of_change (C := Try.checked) own started (by kernel_rfl) Try.func7
    (ChangeSpec.witness6 (enc := enc) (C := Try.checked) false ⟨#[], #[.slice none 0 0, .slice none 0 0], []⟩ 8 (by kernel_rfl) (by kernel_rfl) (by kernel_rfl) (by kernel_rfl)) ?_
  intro W base args ds gs before hval hW _ _
  exact contract H enc W base args ds gs before hval hW

/-- The statement. -/
theorem proved : Rows.NamesOrderSaid :=
  OpenClaim.holds_of_wide 7 Try.f7 rfl rfl rfl rfl rfl rfl rfl ⟨rfl, rfl, rfl, rfl, rfl⟩ rfl rfl rfl rfl rfl (by kernel_rfl) Try.func7 (by kernel_rfl)
    (of_decide_eq_true (by kernel_rfl)) (by unfold Func.isWrapper; first | (rw [if_pos (by decide +kernel)]; kernel_rfl) | (rw [if_neg (by decide +kernel)]; exact ⟨rfl, rfl⟩))
    (fun os started H enc _ => lifted os started H enc)

end Go.Proofs.Ytjfiokcgmmmboaa.namesOrderP
