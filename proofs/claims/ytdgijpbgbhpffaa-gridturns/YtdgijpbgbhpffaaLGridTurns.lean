/-
  Proved: for every input tattinglaw8.GridTurns returns true, and its arguments read afterwards as before.
-/
import Derived.Test.YtdgijpbgbhpffaaAwake8
import Derived.Test.YtdgijpbgbhpffaaArgsI
import Derived.Test.YtdgijpbgbhpffaaFew
import Derived.Test.YtdgijpbgbhpffaaRf7
import Derived.BigRegion
namespace Go.Proofs.Ytdgijpbgbhpffaa.gridTurnsP
open Go.ChangeShapes Go.WideShapes Go.ChangeAt Go.RowKit
open Go.ChangeMaps (open_string shut_string)

/-- The most of what has come. -/
def mostTo (f : Nat → Nat) : Nat → Nat
  | 0 => 0
  | s + 1 => max (mostTo f s) (f s)
theorem mostTo_le {f : Nat → Nat} {L : Nat} (h : ∀ c, f c ≤ L) : ∀ s, mostTo f s ≤ L
  | 0 => Nat.zero_le _
  | s + 1 => by have := mostTo_le h s; have := h s; unfold mostTo; omega
theorem mostTo_ge {f : Nat → Nat} {c : Nat} : ∀ s, c < s → f c ≤ mostTo f s
  | s + 1, hc => by
    unfold mostTo
    by_cases e : c = s
    · subst e; omega
    · have := mostTo_ge (f := f) (c := c) s (by omega); omega
theorem most_all (a b : List Int) (i m : Nat) (hm : b.length = m) : mostTo (fun c => px a b i c + lx a b i c) (m + 1) = lcs a b := by
  obtain ⟨j, h1, h2⟩ := px_lx_has a b i
  have h3 : px a b i j + lx a b i j ≤ mostTo (fun c => px a b i c + lx a b i c) (m + 1) := mostTo_ge (f := fun c => px a b i c + lx a b i c) (c := j) (m + 1) (by omega)
  have h4 := mostTo_le (f := fun c => px a b i c + lx a b i c) (L := lcs a b) (fun c => px_lx_le a b i c) (m + 1)
  omega
def TtRel (x y : List Int) (n m P Q : Nat) (bp bq : Nat → Nat) (w wr : World) : Prop :=
  Tab (fun r c => ((px x y r c : Nat) : Int)) n m P bp wr ∧ Tab (fun r c => ((lx x y r c : Nat) : Int)) n m Q bq wr ∧ Below w.heap.size w wr
theorem TtRel.drew {x y : List Int} {n m P Q : Nat} {bp bq : Nat → Nat} {w wr : World} (h : TtRel x y n m P Q bp bq w wr) : TtRel x y n m P Q bp bq w wr.drew := ⟨h.1, h.2.1, h.2.2.drew⟩

set_option maxRecDepth 100000 in
set_option maxHeartbeats 1600000 in
theorem gridTurns_walk (Aa : Option Addr) (na ca : Nat) (a : List Int) (Ab : Option Addr) (nb cb : Nat) (b : List Int) (w : World) (ha : ArgI w Aa na ca a) (hb : ArgI w Ab nb cb b) :
    Calls Try.prog 8 #[.slice Aa na ca, .slice Ab nb cb] w (Yes w) := by
  obtain ⟨hna, hca, hma, r_a, hnila, hwfa⟩ := ha
  have Ha := Lib.hid hna
  have Wa := Lib.hid hwfa
  clear hna hwfa
  unfold maxLen at hma
  obtain ⟨hnb, hcb, hmb, r_b, hnilb, hwfb⟩ := hb
  have Hb := Lib.hid hnb
  have Wb := Lib.hid hwfb
  clear hnb hwfb
  unfold maxLen at hmb
  by_cases ga : na ≤ 40
  case neg =>
    go_enter Try.func8, Try.ntmps8
    go_wp2_with fail
    refine (awake8 _).mono ?_
    rintro e w1 ⟨rfl, hb1⟩
    go_wp2_with fail
    go_ret
    exact Yes.of hb1
  by_cases gb : nb ≤ 40
  case neg =>
    go_enter Try.func8, Try.ntmps8
    go_wp2_with fail
    refine (awake8 _).mono ?_
    rintro e w1 ⟨rfl, hb1⟩
    go_wp2_with fail
    go_ret
    exact Yes.of hb1
  go_enter Try.func8, Try.ntmps8
  go_wp2_with fail
  refine (awake8 _).mono ?_
  rintro e w1 ⟨rfl, hb⟩
  have B := below_go (Below.refl _ _) hb
  replace r_a := r_a.below B
  replace r_b := r_b.below B
  have bb := B
  clear B hb
  go_wp2_with fail
  refine (few_any _ na _ a 4 _ Ha.out (by omega) (by decide) (by decide) r_a).mono ?_
  rintro e w2 ⟨v, rfl, hv, hb⟩
  have B := below_go (Below.refl _ _) hb
  replace r_a := r_a.below B
  replace r_b := r_b.below B
  replace bb := below_go bb B
  clear B hb
  have Hx : Hid ((few 4 a).length = na) := by show _ = _; rw [few_length, Ha.out]
  rw [Hx.out] at hv
  obtain ⟨V_x, c_x, rfl, hq_x, hm_x, r_x, hnil_x⟩ := own_slice hv
  clear hv
  generalize few 4 a = x at *
  clear r_a
  go_wp2_with fail
  refine (few_any _ nb _ b 4 _ Hb.out (by omega) (by decide) (by decide) r_b).mono ?_
  rintro e w3 ⟨v, rfl, hv, hb⟩
  have B := below_go (Below.refl _ _) hb
  replace r_b := r_b.below B
  replace r_x := r_x.below B
  replace bb := below_go bb B
  clear B hb
  have Hy : Hid ((few 4 b).length = nb) := by show _ = _; rw [few_length, Hb.out]
  rw [Hy.out] at hv
  obtain ⟨V_y, c_y, rfl, hq_y, hm_y, r_y, hnil_y⟩ := own_slice hv
  clear hv
  generalize few 4 b = y at *
  clear r_b
  have hLx := lcs_le_left x y
  rw [Hx.out] at hLx
  have HC := Lib.hid (lcs_comm y x)
  have HR := Lib.hid (lcs_rev x y)
  have HM := Lib.hid (fun i => most_all x y i nb Hy.out)
  have HP := Lib.hid (px_lx_le x y)
  go_wp2_with fail
  refine (plen_any _ _ na nb _ _ x y _ Hx.out Hy.out (by omega) (by omega) r_x r_y).mono ?_
  rintro e w4 ⟨rfl, hb⟩
  have B := below_go (Below.refl _ _) hb
  replace r_x := r_x.below B
  replace r_y := r_y.below B
  replace bb := below_go bb B
  clear B hb
  go_wp2_with fail
  refine (ahead_any _ _ na nb _ _ x y _ Hx.out Hy.out (by omega) (by omega) r_x r_y).mono ?_
  rintro e w5 ⟨T_p, B_p, rfl, _, tab_p, hb⟩
  have B := below_go (Below.refl _ _) hb
  replace r_x := r_x.below B
  replace r_y := r_y.below B
  replace bb := below_go bb B
  clear B hb
  go_wp2_with fail
  refine (pbehind_any _ _ na nb _ _ x y _ Hx.out Hy.out (by omega) (by omega) r_x r_y).mono ?_
  rintro e w6 ⟨T_q, B_q, rfl, _, tab_q, hb⟩
  have B := below_go (Below.refl _ _) hb
  replace r_x := r_x.below B
  replace r_y := r_y.below B
  replace tab_p := tab_p.below B
  replace bb := below_go bb B
  clear B hb
  go_wp2_with fail
  refine (plen_any _ _ nb na _ _ y x _ Hy.out Hx.out (by omega) (by omega) r_y r_x).mono ?_
  rintro e w7 ⟨rfl, hb⟩
  have B := below_go (Below.refl _ _) hb
  replace r_x := r_x.below B
  replace r_y := r_y.below B
  replace tab_p := tab_p.below B
  replace tab_q := tab_q.below B
  replace bb := below_go bb B
  clear B hb
  rw [HC.out]
  go_wp2_with fail
  refine (turned_any _ na _ x _ Hx.out (by omega) r_x).mono ?_
  rintro e w8 ⟨v, rfl, hv, hb⟩
  have B := below_go (Below.refl _ _) hb
  replace r_x := r_x.below B
  replace r_y := r_y.below B
  replace tab_p := tab_p.below B
  replace tab_q := tab_q.below B
  replace bb := below_go bb B
  clear B hb
  have Hu : Hid (x.reverse.length = na) := by show _ = _; rw [List.length_reverse, Hx.out]
  rw [Hu.out] at hv
  obtain ⟨V_u, c_u, rfl, _, _, r_u, _⟩ := own_slice hv
  clear hv
  go_wp2_with fail
  refine (turned_any _ nb _ y _ Hy.out (by omega) r_y).mono ?_
  rintro e w9 ⟨v, rfl, hv, hb⟩
  have B := below_go (Below.refl _ _) hb
  replace r_x := r_x.below B
  replace r_y := r_y.below B
  replace tab_p := tab_p.below B
  replace tab_q := tab_q.below B
  replace r_u := r_u.below B
  replace bb := below_go bb B
  clear B hb
  have Ht : Hid (y.reverse.length = nb) := by show _ = _; rw [List.length_reverse, Hy.out]
  rw [Ht.out] at hv
  obtain ⟨V_t, c_t, rfl, _, _, r_t, _⟩ := own_slice hv
  clear hv
  go_wp2_with fail
  refine (plen_any _ _ na nb _ _ x.reverse y.reverse _ Hu.out Ht.out (by omega) (by omega) r_u r_t).mono ?_
  rintro e w10 ⟨rfl, hb⟩
  have B := below_go (Below.refl _ _) hb
  replace r_x := r_x.below B
  replace r_y := r_y.below B
  replace tab_p := tab_p.below B
  replace tab_q := tab_q.below B
  replace r_u := r_u.below B
  replace r_t := r_t.below B
  replace bb := below_go bb B
  clear B hb
  rw [HR.out]
  generalize lcs x y = L at *
  have HT : Hid (TtRel x y na nb T_p T_q B_p B_q w w10) := ⟨tab_p, tab_q, bb⟩
  clear tab_p tab_q bb r_x r_y r_u r_t
  go_wp2_with fail
  go_loopw [10] (fun i wr => ∃ k : Nat, k ≤ na + 1 ∧ i = .int .i64 (k : Int) ∧ TtRel x y na nb T_p T_q B_p B_q w wr) (fun i _ => na + 1 - (intOf i).toNat)
  case atStart => exact ⟨0, Nat.zero_le _, rfl, HT.out⟩
  case round =>
    clear HT
    obtain ⟨k, hk, rfl, hT⟩ := hrel
    by_cases hlt : k < na + 1
    · have t1 := hT.1.1.cell (i := k) hlt
      have t2 := hT.2.1.1.cell (i := k) hlt
      have HT := Lib.hid hT
      clear hT
      go_wp2_with fail
      go_loopw [11, 12] (fun v j wx => ∃ s : Nat, s ≤ nb + 1 ∧ j = .int .i64 (s : Int) ∧ v = .int .i64 ((mostTo (fun c => px x y k c + lx x y k c) s : Nat) : Int) ∧ TtRel x y na nb T_p T_q B_p B_q w wx) (fun _ j _ => nb + 1 - (intOf j).toNat)
      case atStart => exact ⟨0, Nat.zero_le _, rfl, rfl, HT.out⟩
      case round =>
        clear HT t1 t2
        obtain ⟨s, hs, rfl, rfl, hT⟩ := hrel
        by_cases hls : s < nb + 1
        · have t1 := hT.1.1.cell (i := k) hlt
          have t2 := hT.2.1.1.cell (i := k) hlt
          have t3 := World.rowIs.cell (hT.1.2 k (by omega)) (i := s) hls
          have t4 := World.rowIs.cell (hT.2.1.2 k (by omega)) (i := s) hls
          have R := Lib.hid hT.drew
          have hle := HP.out k s
          have HS : Hid (mostTo (fun c => px x y k c + lx x y k c) (s + 1) = max (mostTo (fun c => px x y k c + lx x y k c) s) (px x y k s + lx x y k s)) := rfl
          have hmo : mostTo (fun c => px x y k c + lx x y k c) s ≤ L := mostTo_le (HP.out k) s
          clear hT
          dsimp only at t3 t4
          generalize px x y k s = X at *
          generalize lx x y k s = Y at *
          generalize mostTo (fun c => px x y k c + lx x y k c) s = Z at *
          by_cases hZ : Z < X + Y
          · have HV : Hid (mostTo (fun c => px x y k c + lx x y k c) (s + 1) = X + Y) := by show _ = _; rw [HS.out]; omega
            clear HS HP HM HC HR
            go_wp2_with fail
            go_region
            go_wp2_with fail
            go_roundw
            case rel => exact ⟨s + 1, hls, by go_num, by rw [HV.out]; go_num, R.out⟩
            case measure => simp [intOf]; omega
          · have HV : Hid (mostTo (fun c => px x y k c + lx x y k c) (s + 1) = Z) := by show _ = _; rw [HS.out]; omega
            clear HS HP HM HC HR
            go_wp2_with fail
            go_region
            go_wp2_with fail
            go_roundw
            case rel => exact ⟨s + 1, hls, by go_num, by rw [HV.out], R.out⟩
            case measure => simp [intOf]; omega
        · obtain rfl : s = nb + 1 := by omega
          rw [HM.out k]
          have HT := Lib.hid hT
          clear hT
          go_wp2_with fail
          go_roundw
          case rel => first | exact ⟨k + 1, hlt, by go_num, HT.out⟩ | ((repeat apply Exists.intro); exact ⟨⟨k + 1, hlt, by go_num, HT.out⟩, rfl⟩)
          case measure => simp [intOf]; omega
    · have HT := Lib.hid hT.2.2
      clear hT
      go_wp2_with fail
      go_ret
      exact Yes.of HT.out

/-! ### The row's step -/
theorem own : ownKnob Try.prog.godebug = none := by kernel_rfl
theorem laidOut : laidOutB Try.prog = true := by kernel_rfl

theorem contract (H : Type) (enc : TypeId × Value → H) (W : World) (base : Nat) (args : Array Value) (ds gs : List (DataW H)) (before : List MemPlace)
    (hval : ∀ (j : Nat) t v, Try.f8.params[j]? = some t → args[j]? = some v → Value.okWide Try.prog W .any base t v)
    (hW : DataW.Whole enc Try.prog Try.f8.params.toList Rows.gridTurnsSpec.vars false W args.toList ds gs before) :
    Calls Try.prog 8 args W fun e W' => ∃ v, e = .returned v ∧ Rows.gridTurnsSpec.post enc Try.prog Try.f8 false true false false W args v W' := by
  have hW' := hW
  obtain ⟨p, q, hA0, hV, rfl, hfz, hnd⟩ := hW
  have hA : DataW.TrodAll enc Try.prog W 0 (fun _ => true) true Try.f8.params.toList args.toList ds p := hA0
  rw [Try.params8] at hA hval
  obtain ⟨v0, vs0, d0, ds0, p0, q0, hargs, rfl, rfl, h0, r0⟩ := trodAll_cons hA
  obtain ⟨v1, vs1, d1, ds1, p1, q1, rfl, rfl, rfl, h1, r1⟩ := trodAll_cons r0
  obtain ⟨rfl, rfl, rfl⟩ := trodAll_nil r1
  obtain rfl : args = #[v0, v1] := by cases args; simp_all
  obtain ⟨rfl, rfl⟩ := trodVars_none hV
  have k0 := h0
  have lt0 : ∀ x ∈ p0, x.block < W.heap.size := by obtain ⟨m, hm⟩ := k0; exact DataW.trod_lt m _ _ _ hm
  obtain ⟨A0, n0, c0, e0⟩ := okWide_slice Try.underlying25 (hval 0 25 v0 rfl rfl)
  subst e0
  obtain ⟨l0, w0⟩ := open_argI Try.underlying25 Try.underlying3 (by kernel_rfl) h0
  have k1 := h1
  have lt1 : ∀ x ∈ p1, x.block < W.heap.size := by obtain ⟨m, hm⟩ := k1; exact DataW.trod_lt m _ _ _ hm
  obtain ⟨A1, n1, c1, e1⟩ := okWide_slice Try.underlying25 (hval 1 25 v1 rfl rfl)
  subst e1
  obtain ⟨l1, w1⟩ := open_argI Try.underlying25 Try.underlying3 (by kernel_rfl) h1
  clear hA0
  refine (gridTurns_walk A0 n0 c0 l0 A1 n1 c1 l1 W w0 w1).mono fun e W' ⟨he, bel⟩ => ?_
  subst he
  exact ⟨_, rfl, _, _, _, [], _, [], hW', trodAll_mk1 (shut_bool Try.underlying4 _), (trodAll_cons_mk (Below.trod laidOut (by kernel_rfl) (of_decide_eq_true (by kernel_rfl)) k0 bel lt0) (trodAll_cons_mk (Below.trod laidOut (by kernel_rfl) (of_decide_eq_true (by kernel_rfl)) k1 bel lt1) trodAll_mk0)), rfl, bel.frame _, fun h => by cases h⟩

set_option maxRecDepth 100000 in
theorem lifted (os : Os) (started : os.Started) (H : Type) (enc : TypeId × Value → H) :
    ReturnsInHanded {} Try.checked os 8 .any (Rows.gridTurnsSpec.pre6 enc Try.prog Try.f8 Rows.gridTurnsRow.domain false) (Rows.gridTurnsSpec.post enc Try.prog Try.f8 false true false false) := by
  refine returnsInHanded_of_change (C := Try.checked) own started (by kernel_rfl) Try.func8
    (ChangeSpec.witness6 (enc := enc) (C := Try.checked) false ⟨#[], #[.slice none 0 0, .slice none 0 0], []⟩ 8 (by kernel_rfl) (by kernel_rfl) (by kernel_rfl) (by kernel_rfl)) ?_
  intro W base args ds gs before hval hW _ _
  exact contract H enc W base args ds gs before hval hW

/-- The statement. -/
theorem proved : Rows.GridTurnsSaid :=
  OpenClaim.holds_of_wide 8 Try.f8 rfl rfl rfl rfl rfl rfl rfl ⟨rfl, rfl, rfl, rfl, rfl⟩ rfl rfl rfl rfl rfl (by kernel_rfl) Try.func8 (by kernel_rfl)
    (of_decide_eq_true (by kernel_rfl)) (by unfold Func.isWrapper; first | (rw [if_pos (by decide +kernel)]; kernel_rfl) | (rw [if_neg (by decide +kernel)]; exact ⟨rfl, rfl⟩))
    (fun os started H enc _ => lifted os started H enc)

end Go.Proofs.Ytdgijpbgbhpffaa.gridTurnsP
