/-
  Words and contracts that the proof leans on.
-/
import Derived.Test.YtejpbjglfjhjkaaM23
import Derived.Test.YtejpbjglfjhjkaaM17
import Derived.Test.YtejpbjglfjhjkaaM19
import Derived.Test.YtejpbjglfjhjkaaM5
import Derived.Test.YtejpbjglfjhjkaaM30
import Derived.Test.YtejpbjglfjhjkaaM4
import Derived.BigQuiet
namespace Go.Proofs.Ytejpbjglfjhjkaa
open Go.RowKit

/-- The head of a round: the first place of a number. -/
def HsRel (x : Int) (b : List Int) (m : Nat) (w : World) (v : Value) (wr : World) : Prop := ∃ k q : Nat, k ≤ m ∧ v = .int .i64 (k : Int) ∧ wr = w.drewN q ∧ Hid (∀ y, y < k → b[y]? ≠ some x)

set_option maxRecDepth 100000 in
set_option maxHeartbeats 1600000 in
theorem halves_one (A B : Option Addr) (m c d : Nat) (x : Int) (b : List Int) (i j : Nat) (w : World) (hm : b.length = m) (hm' : m ≤ 1048576) (hm0 : m ≠ 0) (hj : j ≤ 1048576) (h1 : Row w A (iv [x])) (h2 : Row w B (iv b)) :
    Calls Try.prog 18 #[.slice A 1 c, .slice B m d, .int .i64 (i : Int), .int .i64 (j : Int)] w (MadeS (one1 x b (i : Int) (j : Int)) m w) := by
  obtain ⟨ga, oa, rfl, ca⟩ := h1.int (k := 0) (by simp)
  simp only [Nat.add_zero, List.getElem_cons_zero] at ca
  have HM := Lib.hid hm
  have e0 : ((m : Int) == 0) = false := by simp; omega
  clear hm h1
  go_enter Try.func18, Try.ntmps18
  go_wp2_with fail
  go_loopw [12] (fun v wr => HsRel x b m w v wr) (fun v _ => m - (intOf v).toNat)
  case atStart => exact ⟨0, 0, Nat.zero_le _, rfl, rfl, fun y h => by omega⟩
  case round =>
    obtain ⟨k, q, hk, rfl, rfl, HNo⟩ := hrel
    by_cases hlt : k < m
    · obtain ⟨g, o, rfl, hc⟩ := h2.int (k := k) (by rw [HM.out]; exact hlt)
      have HY : Hid (b[k]? = some (b[k]'(by rw [HM.out]; exact hlt))) := List.getElem?_eq_getElem _
      generalize b[k]'(by rw [HM.out]; exact hlt) = y at *
      by_cases heq : y = x
      · subst heq
        have HE : Hid (one1 y b (i : Int) (j : Int) = [((i : Int), (j : Int) + (k : Int))]) := by
          show _ = _
          unfold one1
          rw [at1_of HY.out (fun z hz => Nat.le_of_not_lt fun h => HNo.out z h hz)]
        go_wp2_with fail
        go_quiet (fail)
        go_wp2_with fail
        go_ret2
        refine ⟨.slice (some ⟨w.heap.size, 0, none⟩) 1 1, rfl, ?_, ?_⟩
        · rw [HE.out]
          exact World.ownsRow_lit (w.drewN (q + nq)) #[.int .i64 (i : Int), .int .i64 ((j : Int) + (k : Int))] 1 (Nat.le_refl _) (by unfold maxLen; omega) rfl
        · exact below_al (w := w) (below_drewN (Below.refl _ _) _) _
      · have hz : (y == x) = false := by simpa using heq
        have HK : Hid (∀ z, z < k + 1 → b[z]? ≠ some x) := fun z hz' => by
          by_cases e : z = k
          · rw [e, HY.out]; intro e'; exact heq (Option.some.inj e')
          · exact HNo.out z (by omega)
        clear heq
        go_wp2_with fail
        go_quiet (fail)
        go_wp2_with fail
        go_roundw
        case rel => exact ⟨k + 1, _, by omega, by go_num, rfl, HK.out⟩
        case measure => simp [intOf]; omega
    · have HE : Hid (one1 x b (i : Int) (j : Int) = []) := by
        show _ = _
        unfold one1
        rw [at1_no (fun y hy => HNo.out y (by have := (List.getElem?_eq_some_iff.1 hy).1; rw [HM.out] at this; omega) hy)]
      go_wp2_with fail
      go_ret2
      exact ⟨_, rfl, by rw [HE.out]; exact World.ownsRow_nil _ _ _ _, below_drewN (Below.refl _ _) _⟩

set_option maxRecDepth 100000 in
set_option maxHeartbeats 3200000 in
theorem halves_any : ∀ (N : Nat) (A B : Option Addr) (n m c d i j : Nat) (a b : List Int) (w : World), a.length = n → b.length = m → n ≤ N → i + n ≤ 1048576 → j + m ≤ 1048576 → n ≤ c → m ≤ d → Row w A (iv a) → Row w B (iv b) →
    Calls Try.prog 18 #[.slice A n c, .slice B m d, .int .i64 (i : Int), .int .i64 (j : Int)] w (MadeS (hv a b (i : Int) (j : Int)).1 (hv a b (i : Int) (j : Int)).2 w) := by
  intro N
  induction N using Nat.strongRecOn with
  | ind N ih =>
  intro A B n m c d i j a b w hn hm hN hi hj hc hd h1 h2
  have IH := Lib.hid ih
  clear ih
  by_cases h00 : n = 0
  · have HE : Hid (hv a b (i : Int) (j : Int) = ([], 0)) := hv_none (.inl (by rw [hn]; exact h00))
    subst h00
    clear h1 h2 hn hm
    go_enter Try.func18, Try.ntmps18
    go_wp2_with fail
    go_ret2
    rw [HE.out]
    exact ⟨_, rfl, World.ownsRow_nil _ _ _ _, Below.refl _ _⟩
  have t0 : ((n : Int) == 0) = false := by simp; omega
  by_cases h01 : m = 0
  · have HE : Hid (hv a b (i : Int) (j : Int) = ([], 0)) := hv_none (.inr (by rw [hm]; exact h01))
    subst h01
    clear h1 h2 hn hm
    go_enter Try.func18, Try.ntmps18
    go_wp2_with fail
    go_ret2
    rw [HE.out]
    exact ⟨_, rfl, World.ownsRow_nil _ _ _ _, Below.refl _ _⟩
  by_cases hn1 : n = 1
  · subst hn1
    obtain ⟨x, rfl⟩ := List.length_eq_one_iff.1 hn
    rw [hv_one (by rw [hm]; exact h01), hm]
    exact halves_one A B m c d x b i j w hm (by omega) h01 (by omega) h1 h2
  have t1 : ((m : Int) == 0) = false := by simp; omega
  have t2 : ((n : Int) == 1) = false := by simp; omega
  obtain ⟨i0, hi0, hz0, hz1, hz2⟩ := info_parts Try.infoPair
  have e := hv_two (a := a) (b := b) (i := (i : Int)) (j := (j : Int)) (by rw [hn]; omega) (by rw [hm]; exact h01)
  have HNl : Hid ((hv a b (i : Int) (j : Int)).2 ≤ 1048576 * 2097173) := Nat.le_trans (hv_steps _ _ (by rw [hn]; omega)) (by rw [hn, hm]; exact mst_le (by omega) (by omega))
  have HLl : Hid ((hv a b (i : Int) (j : Int)).1.length ≤ 1048576) := by
    show _ ≤ _
    rw [hv_len (by rw [hn]; omega)]
    have := lcs_le_left a b
    omega
  obtain ⟨z, hz⟩ : ∃ z, n * m = z := ⟨_, rfl⟩
  have hmul : (n : Int) * (m : Int) = (z : Int) := by rw [← hz]; simp
  rw [hn, hm, hz] at e
  obtain ⟨h, hh⟩ : ∃ h, n / 2 = h := ⟨_, rfl⟩
  have hq1 : (n : Int) / 2 = (h : Int) := by omega
  have hq2 : (n : Int).tdiv 2 = (h : Int) := by rw [Int.tdiv_eq_ediv_of_nonneg (by omega)]; exact hq1
  have bh : 0 < h ∧ h < n := by omega
  have HJ : Hid ((splitL (frontL (a.take h) b) (backL (a.drop h) b)).1 = hjo a b) := by show _ = _; unfold hjo; rw [hn, hh]
  have hJm : hjo a b ≤ m := by rw [← hm]; exact (hjo_meet (by rw [hn]; omega)).1
  rw [hh] at e
  clear hh hz
  generalize hjo a b = J at *
  obtain ⟨ihh, hih⟩ : ∃ k, i + h = k := ⟨_, rfl⟩
  obtain ⟨jJ, hjJ⟩ : ∃ k, j + J = k := ⟨_, rfl⟩
  have ew1 : IntKind.i64.wrap ((i : Int) + (h : Int)) = (ihh : Int) := by rw [IntWalk.i64_in _ (by omega)]; omega
  have ew2 : IntKind.i64.wrap ((j : Int) + (J : Int)) = (jJ : Int) := by rw [IntWalk.i64_in _ (by omega)]; omega
  have HFL : Hid ((frontL (a.take h) b).length = m + 1) := by show _ = _; rw [frontL_length, hm]
  have HBL : Hid ((backL (a.drop h) b).length = m + 1) := by show _ = _; rw [backL_length, hm]
  have HTk : Hid ((a.take h).length = h) := by show _ = _; rw [List.length_take, hn]; omega
  have HDk : Hid ((a.drop h).length = n - h) := by show _ = _; rw [List.length_drop, hn]
  have HTj : Hid ((b.take J).length = J) := by show _ = _; rw [List.length_take, hm]; omega
  have HDj : Hid ((b.drop J).length = m - J) := by show _ = _; rw [List.length_drop, hm]
  obtain ⟨s1, s2⟩ := slice_to A n c h a w h1 (by omega)
  obtain ⟨A1, c1, s3, s4, s5⟩ := slice_from A n c h a w h1 hn hc (by omega)
  obtain ⟨s6, s7⟩ := slice_to B m d J b w h2 (by omega)
  obtain ⟨B1, d1, s8, s9, s10⟩ := slice_from B m d J b w h2 hm hd hJm
  have X1 : Hid (∀ w', Below w.heap.size w w' → Calls Try.prog 18 #[.slice A h c, .slice B J d, .int .i64 (i : Int), .int .i64 (j : Int)] w' (MadeS (hv (a.take h) (b.take J) (i : Int) (j : Int)).1 (hv (a.take h) (b.take J) (i : Int) (j : Int)).2 w')) := fun w' hb =>
    IH.out (n - 1) (by omega) A B h J c d i j (a.take h) (b.take J) w' HTk.out HTj.out (by omega) (by omega) (by omega) (by omega) (by omega) (s2.below hb) (s7.below hb)
  have X2 : Hid (∀ w', Below w.heap.size w w' → Calls Try.prog 18 #[.slice A1 (n - h) c1, .slice B1 (m - J) d1, .int .i64 (ihh : Int), .int .i64 (jJ : Int)] w' (MadeS (hv (a.drop h) (b.drop J) ((i : Int) + (h : Nat)) ((j : Int) + (J : Nat))).1 (hv (a.drop h) (b.drop J) ((i : Int) + (h : Nat)) ((j : Int) + (J : Nat))).2 w')) := fun w' hb => by
    have X := IH.out (n - 1) (by omega) A1 B1 (n - h) (m - J) c1 d1 (i + h) (j + J) (a.drop h) (b.drop J) w' HDk.out HDj.out (by omega) (by omega) (by omega) s4 s9 (s5.below hb) (s10.below hb)
    rw [hih, hjJ] at X
    rw [show ((i : Int) + (h : Nat)) = (ihh : Int) by omega, show ((j : Int) + (J : Nat)) = (jJ : Int) by omega]
    exact X
  rw [e] at HNl HLl ⊢
  clear e IH s4 s9 s7 s10 hih hjJ
  have hNl := HNl.out
  have hLl := HLl.out
  simp only at hNl hLl
  rw [List.length_append] at hLl
  clear HNl HLl
  generalize hv (a.take h) (b.take J) (i : Int) (j : Int) = U at *
  generalize hv (a.drop h) (b.drop J) ((i : Int) + (h : Nat)) ((j : Int) + (J : Nat)) = V at *
  obtain ⟨U1, U2⟩ := U
  obtain ⟨V1, V2⟩ := V
  simp only at hNl hLl X1 X2
  simp only
  have HM := Lib.hid hm
  clear hn hm
  have hmx : Try.prog.follows .mixedOrders = true := by kernel_rfl
  have r_t := s2
  have r_d := s5
  clear s2 s5 h1
  go_enter Try.func18, Try.ntmps18
  go_wp2_with fail
  refine wp_region_held (S := AnyW) hmx ?_
  refine wpAnyH_take (i := 0) (v := ?v1) rfl (by kernel_rfl) (by kernel_rfl) (by kernel_rfl) (fun _ _ _ h => h) (.inl ⟨by kernel_rfl, ?y1⟩) (anyW _) ?_
  case y1 =>
    rintro w' -
    go_simp
    first | done | with_reducible rfl | rfl
  try simp only [Act.put]
  refine wpAnyH_take (i := 1) (v := ?v2) rfl (by kernel_rfl) (by kernel_rfl) (by kernel_rfl) (fun _ _ _ h => h) (.inl ⟨by kernel_rfl, ?y2⟩) (anyW _) ?_
  case y2 =>
    rintro w' -
    go_simp
    first | done | with_reducible rfl | rfl
  try simp only [Act.put]
  refine wpAnyH_take (i := 2) (v := ?v3) rfl (by kernel_rfl) (by kernel_rfl) (by kernel_rfl) (fun _ _ _ h => h) (.inl ⟨by kernel_rfl, ?y3⟩) (anyW _) ?_
  case y3 =>
    rintro w' -
    go_simp
    first | done | with_reducible rfl | rfl
  try simp only [Act.put]
  refine wpAnyH_take (i := 3) (v := ?v4) rfl (by kernel_rfl) (by kernel_rfl) (by kernel_rfl) (fun _ _ _ h => h) (.inl ⟨by kernel_rfl, ?y4⟩) (anyW _) ?_
  case y4 =>
    rintro w' -
    go_simp
    first | done | with_reducible rfl | rfl
  try simp only [Act.put]
  refine wpAnyH_take (i := 5) (v := ?v5) rfl (by kernel_rfl) (by kernel_rfl) (by kernel_rfl) (fun _ _ _ h => h) (.inl ⟨by kernel_rfl, ?y5⟩) (anyW _) ?_
  case y5 =>
    rintro w' -
    go_simp
    first | done | with_reducible rfl | rfl
  try simp only [Act.put]
  refine wpAnyH_take (i := 6) (v := ?v6) rfl (by kernel_rfl) (by kernel_rfl) (by kernel_rfl) (fun _ _ _ h => h) (.inl ⟨by kernel_rfl, ?y6⟩) (anyW _) ?_
  case y6 =>
    rintro w' -
    go_simp
    first | done | with_reducible rfl | rfl
  try simp only [Act.put]
  refine wpAnyH_take (i := 7) (v := ?v7) rfl (by kernel_rfl) (by kernel_rfl) (by kernel_rfl) (fun _ _ _ h => h) (.inl ⟨by kernel_rfl, ?y7⟩) (anyW _) ?_
  case y7 =>
    rintro w' -
    go_simp
    first | done | with_reducible rfl | rfl
  try simp only [Act.put]
  refine wpAnyH_take (i := 8) (v := ?v8) rfl (by kernel_rfl) (by kernel_rfl) (by kernel_rfl) (fun _ _ _ h => h) (.inl ⟨by kernel_rfl, ?y8⟩) (anyW _) ?_
  case y8 =>
    rintro w' -
    go_simp
    first | done | with_reducible rfl | rfl
  try simp only [Act.put]
  refine held_one (i := 4) (by kernel_rfl) rfl (by kernel_rfl) ?_
  unfold Oper.wp
  go_simp
  refine (rfront_any A B h m c d (a.take h) b w.drew HTk.out HM.out (by omega) (by omega) r_t.drew h2.drew).mono ?_
  rintro e w5 ⟨V5, rfl, r5, hb5⟩
  rw [HFL.out]
  have BB5 := below_go (below_drew (Below.refl _ w)) hb5
  have rb5 := Row.below (w := w.drew) h2 hb5
  have rd5 := Row.below (w := w.drew) r_d hb5
  clear r_t h2 r_d hb5
  refine ⟨(anyW _), ?_⟩
  try simp only [Act.put]
  refine held_one (i := 9) (by kernel_rfl) rfl (by kernel_rfl) ?_
  unfold Oper.wp
  go_simp
  refine (rback_any A1 B (n - h) m c1 d (a.drop h) b w5 HDk.out HM.out (by omega) (by omega) rd5 rb5).mono ?_
  rintro e w6 ⟨V6, rfl, r6, hb6⟩
  rw [HBL.out]
  have BB6 := below_go BB5 hb6
  replace r5 := r5.below hb6
  clear rd5 rb5 BB5 hb6
  refine ⟨(anyW _), ?_⟩
  try simp only [Act.put]
  refine held_one (i := 10) (by kernel_rfl) rfl (by kernel_rfl) ?_
  unfold Oper.wp
  go_simp
  refine (refSplit_any V5 V6 (m + 1) (m + 1) (m + 1) (m + 1) (frontL (a.take h) b) (backL (a.drop h) b) w6 HFL.out HBL.out (by omega) r5 r6).mono ?_
  rintro e w7 ⟨rfl, q, hq⟩
  rw [HJ.out]
  have BB7 := below_go BB6 (below_of hq)
  clear hq BB6 r5 r6 HJ
  refine ⟨(anyW _), ?_⟩
  try simp only [Act.put]
  refine wpAnyH_take (i := 11) (v := ?v9) rfl (by kernel_rfl) (by kernel_rfl) (by kernel_rfl) (fun _ _ _ h => h) (.inl ⟨by kernel_rfl, ?y9⟩) (anyW _) ?_
  case y9 =>
    rintro w' -
    go_simp
    first | done | with_reducible rfl | rfl
  try simp only [Act.put]
  refine wpAnyH_take (i := 12) (v := ?v10) rfl (by kernel_rfl) (by kernel_rfl) (by kernel_rfl) (fun _ _ _ h => h) (.inl ⟨by kernel_rfl, ?y10⟩) (anyW _) ?_
  case y10 =>
    rintro w' -
    go_simp
    first | done | with_reducible rfl | rfl
  try simp only [Act.put]
  refine wpAnyH_take (i := 13) (v := ?v11) rfl (by kernel_rfl) (by kernel_rfl) (by kernel_rfl) (fun _ _ _ h => h) (.inl ⟨by kernel_rfl, ?y11⟩) (anyW _) ?_
  case y11 =>
    rintro w' -
    go_simp
    first | done | with_reducible rfl | rfl
  try simp only [Act.put]
  refine wpAnyH_take (i := 14) (v := ?v12) rfl (by kernel_rfl) (by kernel_rfl) (by kernel_rfl) (fun _ _ _ h => h) (.inl ⟨by kernel_rfl, ?y12⟩) (anyW _) ?_
  case y12 =>
    rintro w' -
    go_simp
    first | done | with_reducible rfl | rfl
  try simp only [Act.put]
  refine wpAnyH_take (i := 15) (v := ?v13) rfl (by kernel_rfl) (by kernel_rfl) (by kernel_rfl) (fun _ _ _ h => h) (.inl ⟨by kernel_rfl, ?y13⟩) (anyW _) ?_
  case y13 =>
    rintro w' -
    go_simp
    first | done | with_reducible rfl | rfl
  try simp only [Act.put]
  refine held_done (by kernel_rfl) ?_
  go_simp
  clear hq1 hq2
  go_wp2_with fail
  refine wp_region_held (S := AnyW) hmx ?_
  refine wpAnyH_take (i := 0) (v := ?v14) rfl (by kernel_rfl) (by kernel_rfl) (by kernel_rfl) (fun _ _ _ h => h) (.inl ⟨by kernel_rfl, ?y14⟩) (anyW _) ?_
  case y14 =>
    rintro w' -
    go_simp
    first | done | with_reducible rfl | rfl
  try simp only [Act.put]
  refine wpAnyH_take (i := 1) (v := ?v15) rfl (by kernel_rfl) (by kernel_rfl) (by kernel_rfl) (fun _ _ _ h => h) (.inl ⟨by kernel_rfl, ?y15⟩) (anyW _) ?_
  case y15 =>
    rintro w' -
    go_simp
    first | done | with_reducible rfl | rfl
  try simp only [Act.put]
  refine wpAnyH_take (i := 2) (v := ?v16) rfl (by kernel_rfl) (by kernel_rfl) (by kernel_rfl) (fun _ _ _ h => h) (.inl ⟨by kernel_rfl, ?y16⟩) (anyW _) ?_
  case y16 =>
    rintro w' -
    go_simp
    first | done | with_reducible rfl | rfl
  try simp only [Act.put]
  refine wpAnyH_take (i := 3) (v := ?v17) rfl (by kernel_rfl) (by kernel_rfl) (by kernel_rfl) (fun _ _ _ h => h) (.inl ⟨by kernel_rfl, ?y17⟩) (anyW _) ?_
  case y17 =>
    rintro w' -
    go_simp
    first | done | with_reducible rfl | rfl
  try simp only [Act.put]
  refine wpAnyH_take (i := 4) (v := ?v18) rfl (by kernel_rfl) (by kernel_rfl) (by kernel_rfl) (fun _ _ _ h => h) (.inl ⟨by kernel_rfl, ?y18⟩) (anyW _) ?_
  case y18 =>
    rintro w' -
    go_simp
    first | done | with_reducible rfl | rfl
  try simp only [Act.put]
  refine wpAnyH_take (i := 5) (v := ?v19) rfl (by kernel_rfl) (by kernel_rfl) (by kernel_rfl) (fun _ _ _ h => h) (.inl ⟨by kernel_rfl, ?y19⟩) (anyW _) ?_
  case y19 =>
    rintro w' -
    go_simp
    first | done | with_reducible rfl | rfl
  try simp only [Act.put]
  refine wpAnyH_take (i := 6) (v := ?v20) rfl (by kernel_rfl) (by kernel_rfl) (by kernel_rfl) (fun _ _ _ h => h) (.inl ⟨by kernel_rfl, ?y20⟩) (anyW _) ?_
  case y20 =>
    rintro w' -
    go_simp
    first | done | with_reducible rfl | rfl
  try simp only [Act.put]
  refine wpAnyH_take (i := 7) (v := ?v21) rfl (by kernel_rfl) (by kernel_rfl) (by kernel_rfl) (fun _ _ _ h => h) (.inl ⟨by kernel_rfl, ?y21⟩) (anyW _) ?_
  case y21 =>
    rintro w' -
    go_simp
    first | done | with_reducible rfl | rfl
  try simp only [Act.put]
  refine held_one (i := 8) (by kernel_rfl) rfl (by kernel_rfl) ?_
  unfold Oper.wp
  go_simp
  refine (X1.out w7.drew (below_drew BB7)).mono ?_
  rintro e w8 ⟨v, rfl, hv8, hb8⟩
  have BB8 := below_go (below_drew BB7) hb8
  clear BB7 hb8
  refine ⟨(anyW _), ?_⟩
  try simp only [Act.put]
  refine wpAnyH_take (i := 9) (v := ?v22) rfl (by kernel_rfl) (by kernel_rfl) (by kernel_rfl) (fun _ _ _ h => h) (.inl ⟨by kernel_rfl, ?y22⟩) (anyW _) ?_
  case y22 =>
    rintro w' -
    go_simp
    first | done | with_reducible rfl | rfl
  try simp only [Act.put]
  refine wpAnyH_take (i := 10) (v := ?v23) rfl (by kernel_rfl) (by kernel_rfl) (by kernel_rfl) (fun _ _ _ h => h) (.inl ⟨by kernel_rfl, ?y23⟩) (anyW _) ?_
  case y23 =>
    rintro w' -
    go_simp
    first | done | with_reducible rfl | rfl
  try simp only [Act.put]
  refine wpAnyH_take (i := 11) (v := ?v24) rfl (by kernel_rfl) (by kernel_rfl) (by kernel_rfl) (fun _ _ _ h => h) (.inl ⟨by kernel_rfl, ?y24⟩) (anyW _) ?_
  case y24 =>
    rintro w' -
    go_simp
    first | done | with_reducible rfl | rfl
  try simp only [Act.put]
  refine wpAnyH_take (i := 12) (v := ?v25) rfl (by kernel_rfl) (by kernel_rfl) (by kernel_rfl) (fun _ _ _ h => h) (.inl ⟨by kernel_rfl, ?y25⟩) (anyW _) ?_
  case y25 =>
    rintro w' -
    go_simp
    first | done | with_reducible rfl | rfl
  try simp only [Act.put]
  refine wpAnyH_take (i := 13) (v := ?v26) rfl (by kernel_rfl) (by kernel_rfl) (by kernel_rfl) (fun _ _ _ h => h) (.inl ⟨by kernel_rfl, ?y26⟩) (anyW _) ?_
  case y26 =>
    rintro w' -
    go_simp
    first | done | with_reducible rfl | rfl
  try simp only [Act.put]
  refine held_done (by kernel_rfl) ?_
  go_simp
  go_wp2_with fail
  refine wp_region_held (S := AnyW) hmx ?_
  refine wpAnyH_take (i := 0) (v := ?v27) rfl (by kernel_rfl) (by kernel_rfl) (by kernel_rfl) (fun _ _ _ h => h) (.inl ⟨by kernel_rfl, ?y27⟩) (anyW _) ?_
  case y27 =>
    rintro w' -
    go_simp
    first | done | with_reducible rfl | rfl
  try simp only [Act.put]
  refine wpAnyH_take (i := 1) (v := ?v28) rfl (by kernel_rfl) (by kernel_rfl) (by kernel_rfl) (fun _ _ _ h => h) (.inl ⟨by kernel_rfl, ?y28⟩) (anyW _) ?_
  case y28 =>
    rintro w' -
    go_simp
    first | done | with_reducible rfl | rfl
  try simp only [Act.put]
  refine wpAnyH_take (i := 2) (v := ?v29) rfl (by kernel_rfl) (by kernel_rfl) (by kernel_rfl) (fun _ _ _ h => h) (.inl ⟨by kernel_rfl, ?y29⟩) (anyW _) ?_
  case y29 =>
    rintro w' -
    go_simp
    first | done | with_reducible rfl | rfl
  try simp only [Act.put]
  refine wpAnyH_take (i := 3) (v := ?v30) rfl (by kernel_rfl) (by kernel_rfl) (by kernel_rfl) (fun _ _ _ h => h) (.inl ⟨by kernel_rfl, ?y30⟩) (anyW _) ?_
  case y30 =>
    rintro w' -
    go_simp
    first | done | with_reducible rfl | rfl
  try simp only [Act.put]
  refine wpAnyH_take (i := 4) (v := ?v31) rfl (by kernel_rfl) (by kernel_rfl) (by kernel_rfl) (fun _ _ _ h => h) (.inl ⟨by kernel_rfl, ?y31⟩) (anyW _) ?_
  case y31 =>
    rintro w' -
    go_simp
    first | done | with_reducible rfl | rfl
  try simp only [Act.put]
  refine wpAnyH_take (i := 5) (v := ?v32) rfl (by kernel_rfl) (by kernel_rfl) (by kernel_rfl) (fun _ _ _ h => h) (.inl ⟨by kernel_rfl, ?y32⟩) (anyW _) ?_
  case y32 =>
    rintro w' -
    go_simp
    first | done | with_reducible rfl | rfl
  try simp only [Act.put]
  refine wpAnyH_take (i := 6) (v := ?v33) rfl (by kernel_rfl) (by kernel_rfl) (by kernel_rfl) (fun _ _ _ h => h) (.inl ⟨by kernel_rfl, ?y33⟩) (anyW _) ?_
  case y33 =>
    rintro w' -
    go_simp
    first | done | with_reducible rfl | rfl
  try simp only [Act.put]
  refine wpAnyH_take (i := 7) (v := ?v34) rfl (by kernel_rfl) (by kernel_rfl) (by kernel_rfl) (fun _ _ _ h => h) (.inl ⟨by kernel_rfl, ?y34⟩) (anyW _) ?_
  case y34 =>
    rintro w' -
    go_simp
    first | done | with_reducible rfl | rfl
  try simp only [Act.put]
  refine wpAnyH_take (i := 8) (v := ?v35) rfl (by kernel_rfl) (by kernel_rfl) (by kernel_rfl) (fun _ _ _ h => h) (.inl ⟨by kernel_rfl, ?y35⟩) (anyW _) ?_
  case y35 =>
    rintro w' -
    go_simp
    first | done | with_reducible rfl | rfl
  try simp only [Act.put]
  refine wpAnyH_take (i := 9) (v := ?v36) rfl (by kernel_rfl) (by kernel_rfl) (by kernel_rfl) (fun _ _ _ h => h) (.inl ⟨by kernel_rfl, ?y36⟩) (anyW _) ?_
  case y36 =>
    rintro w' -
    go_simp
    first | done | with_reducible rfl | rfl
  try simp only [Act.put]
  refine wpAnyH_take (i := 10) (v := ?v37) rfl (by kernel_rfl) (by kernel_rfl) (by kernel_rfl) (fun _ _ _ h => h) (.inl ⟨by kernel_rfl, ?y37⟩) (anyW _) ?_
  case y37 =>
    rintro w' -
    go_simp
    first | done | with_reducible rfl | rfl
  try simp only [Act.put]
  refine wpAnyH_take (i := 11) (v := ?v38) rfl (by kernel_rfl) (by kernel_rfl) (by kernel_rfl) (fun _ _ _ h => h) (.inl ⟨by kernel_rfl, ?y38⟩) (anyW _) ?_
  case y38 =>
    rintro w' -
    go_simp
    first | done | with_reducible rfl | rfl
  try simp only [Act.put]
  refine held_one (i := 12) (by kernel_rfl) rfl (by kernel_rfl) ?_
  unfold Oper.wp
  go_simp
  refine (X2.out w8.drew (below_drew BB8)).mono ?_
  rintro e w9 ⟨v2, rfl, hv9, hb9⟩
  have BB9 := below_go (below_drew BB8) hb9
  have hv8' := own_belowS (w := w8.drew) hv8 hb9 (Nat.le_refl _)
  clear BB8 hb9 hv8
  refine ⟨(anyW _), ?_⟩
  try simp only [Act.put]
  refine wpAnyH_take (i := 13) (v := ?v39) rfl (by kernel_rfl) (by kernel_rfl) (by kernel_rfl) (fun _ _ _ h => h) (.inl ⟨by kernel_rfl, ?y39⟩) (anyW _) ?_
  case y39 =>
    rintro w' -
    go_simp
    first | done | with_reducible rfl | rfl
  try simp only [Act.put]
  refine wpAnyH_take (i := 14) (v := ?v40) rfl (by kernel_rfl) (by kernel_rfl) (by kernel_rfl) (fun _ _ _ h => h) (.inl ⟨by kernel_rfl, ?y40⟩) (anyW _) ?_
  case y40 =>
    rintro w' -
    go_simp
    first | done | with_reducible rfl | rfl
  try simp only [Act.put]
  refine wpAnyH_take (i := 15) (v := ?v41) rfl (by kernel_rfl) (by kernel_rfl) (by kernel_rfl) (fun _ _ _ h => h) (.inl ⟨by kernel_rfl, ?y41⟩) (anyW _) ?_
  case y41 =>
    rintro w' -
    go_simp
    first | done | with_reducible rfl | rfl
  try simp only [Act.put]
  refine wpAnyH_take (i := 16) (v := ?v42) rfl (by kernel_rfl) (by kernel_rfl) (by kernel_rfl) (fun _ _ _ h => h) (.inl ⟨by kernel_rfl, ?y42⟩) (anyW _) ?_
  case y42 =>
    rintro w' -
    go_simp
    first | done | with_reducible rfl | rfl
  try simp only [Act.put]
  refine wpAnyH_take (i := 17) (v := ?v43) rfl (by kernel_rfl) (by kernel_rfl) (by kernel_rfl) (fun _ _ _ h => h) (.inl ⟨by kernel_rfl, ?y43⟩) (anyW _) ?_
  case y43 =>
    rintro w' -
    go_simp
    first | done | with_reducible rfl | rfl
  try simp only [Act.put]
  refine held_done (by kernel_rfl) ?_
  go_simp
  clear s1 s3 s6 s8 X1 X2 ew1 ew2
  obtain ⟨VU, cU, rfl, _, _, rU, nU⟩ := own_sliceS hv8'
  obtain ⟨VV, cV, rfl, _, _, rV, nV⟩ := own_sliceS hv9
  have hb0 := BB9.size
  clear hv8' hv9
  go_wp2_with (at_builtin; refine append_rowS rfl (.tmp 97) (.tmp 98) 22 rfl w9.heap.size 28 i0 (.agg #[.int .i64 0, .int .i64 0]) 2 16 Try.underlying22 hi0 hz0 hz1 hz2 rfl (by decide) _ 0 [] rfl (own_emptyS w9 _ 2 (Nat.le_refl _)) _ U1.length _ (pv U1) rfl (pv_length _) (rU.alloc _) nU (pv_cells _) (by unfold maxLen; omega) (by omega) (by simp) ?_)
  intro v1 y1 o1 g1
  have B1 : Below w9.heap.size w9 y1 := ((Below.refl _ w9).alloc (Nat.le_refl _) _).grown g1 (by simp) (fun j hj => by cases hj; exact Nat.le_refl _)
  have hs1 := B1.size
  have rV1 := rV.below B1
  have HOL := Lib.hid o1
  clear g1 rU rV nU
  go_wp2_with (at_builtin; refine append_rowS rfl (.tmp 99) (.tmp 100) 22 rfl w9.heap.size 28 i0 (.agg #[.int .i64 0, .int .i64 0]) 2 16 Try.underlying22 hi0 hz0 hz1 hz2 rfl (by decide) _ _ _ rfl o1 _ V1.length _ (pv V1) rfl (pv_length _) rV1 nV (pv_cells _) (by unfold maxLen; omega) (by omega) hs1 ?_)
  intro v2 y2 o2 g2
  have B2 : Below w9.heap.size w9 y2 := B1.grown g2 hs1 (fun x hx => (HOL.out.lt x hx).1)
  have HF : Hid (y2.ownsRow w.heap.size 28 2 v2 (U1 ++ V1).length (pv (U1 ++ V1)) ∧ Below w.heap.size w y2) := by
    refine ⟨?_, below_go BB9 B2⟩
    rw [pv_append, List.length_append]
    have o3 := own_lowerS o2 hb0
    simpa using o3
  clear o1 o2 g2 HOL B1 B2 rV1 nV BB9
  go_wp2_with fail
  go_ret2
  exact ⟨v2, by rw [Int.natCast_add, Int.natCast_add]; rfl, HF.out⟩

end Go.Proofs.Ytejpbjglfjhjkaa
