/-
  Proved: for every input tattinglaw9.LeastSays returns true, and its arguments read afterwards as before.
-/
import Derived.Test.YtobijkjonnoeiaaAwake9
import Derived.Test.YtobijkjonnoeiaaArgsI
import Derived.Test.YtobijkjonnoeiaaArgsP
import Derived.Test.YtobijkjonnoeiaaRnd
namespace Go.Proofs.Ytobijkjonnoeiaa.leastSaysP
open Go.ChangeShapes Go.WideShapes Go.ChangeAt Go.RowKit
open Go.ChangeMaps (open_string shut_string)

set_option maxRecDepth 100000 in
set_option maxHeartbeats 6400000 in
theorem leastSays_walk (Aa : Option Addr) (na ca : Nat) (a : List Int) (Ab : Option Addr) (nb cb : Nat) (b : List Int) (w : World) (ha : ArgI w Aa na ca a) (hb : ArgI w Ab nb cb b) :
    Calls Try.prog 4 #[.slice Aa na ca, .slice Ab nb cb] w (Yes w) := by
  obtain ⟨hna, hca, hma, r_a, hnila, hwfa⟩ := ha
  have Ha := Lib.hid hna
  have Wa := Lib.hid hwfa
  clear hna hwfa
  unfold maxLen at hma
  obtain ⟨hnb, hcb, hmb, r_b, hnilb, hwfb⟩ := hb
  have Hb := Lib.hid hnb
  have Wb := Lib.hid hwfb
  clear hnb hwfb
  unfold maxLen at hmb
  by_cases ga : na ≤ 30
  case neg =>
    go_enter Try.func4, Try.ntmps4
    go_wp2_with fail
    refine (awake9 _).mono ?_
    rintro e w1 ⟨rfl, hb1⟩
    go_wp2_with fail
    go_ret
    exact Yes.of hb1
  by_cases gb : nb ≤ 30
  case neg =>
    go_enter Try.func4, Try.ntmps4
    go_wp2_with fail
    refine (awake9 _).mono ?_
    rintro e w1 ⟨rfl, hb1⟩
    go_wp2_with fail
    go_ret
    exact Yes.of hb1
  go_enter Try.func4, Try.ntmps4
  go_wp2_with fail
  refine (awake9 _).mono ?_
  rintro e w1 ⟨rfl, hb⟩
  have B := below_go (Below.refl _ _) hb
  replace r_a := r_a.below B
  replace r_b := r_b.below B
  have bb := B
  clear B hb
  have hM := lst_le a b
  rw [Ha.out] at hM
  go_wp2_with fail
  refine (rleast_any _ _ na nb _ _ a b _ Ha.out Hb.out (by omega) (by omega) r_a r_b).mono ?_
  rintro e w2 ⟨v, rfl, hv, hb⟩
  have B := below_go (Below.refl _ _) hb
  replace r_a := r_a.below B
  replace r_b := r_b.below B
  replace bb := below_go bb B
  clear B hb
  obtain ⟨V_l, c_l, rfl, hq_l, _, r_l, _⟩ := own_sliceS hv
  clear hv
  go_wp2_with fail
  refine (lfirst_any _ _ na nb _ _ a b _ Ha.out Hb.out (by omega) (by omega) hca hcb r_a r_b).mono ?_
  rintro e w3 ⟨rfl, hb⟩
  have B := below_go (Below.refl _ _) hb
  replace r_a := r_a.below B
  replace r_b := r_b.below B
  replace r_l := r_l.below B
  replace bb := below_go bb B
  clear B hb
  have OF := Lib.hid (fun w1 (B : Below w3.heap.size w3 w1) => lof_any Aa Ab na nb ca cb a b w1 Ha.out Hb.out (by omega) (by omega) hca hcb (r_a.below B) (r_b.below B))
  generalize lst a b = l at *
  cases l with
  | nil =>
    rw [show ([] : List Pr).length = 0 from rfl] at hq_l ⊢
    rw [show hdP [] = (0, 0) from rfl, show decide (0 < 0) = false from rfl]
    have bx := bxP_new w3 0 0
    have B1 : Below w3.heap.size w3 (w3.alloc (.cells #[.int .i64 0, .int .i64 0] 26)) := below_a1 _ _
    replace r_l := r_l.below B1
    replace bb := below_go bb B1
    go_wp2_with fail
    generalize hz : w3.alloc (.cells #[.int .i64 0, .int .i64 0] 26) = wz at *
    clear hz
    have OF1 := Lib.hid (OF.out wz.drew B1.drew)
    clear OF B1 r_a r_b
    have F0 : Hid (wz.drew.cell? ⟨w3.heap.size, 0, none⟩ = some (.int .i64 0) ∧ wz.drew.cell? ⟨w3.heap.size, 1, none⟩ = some (.int .i64 0)) := ⟨bx.cells.1, bx.cells.2.1⟩
    have FB : Hid (∀ w4, Below wz.drew.heap.size wz.drew w4 → w4.cell? ⟨w3.heap.size, 0, none⟩ = some (.int .i64 0) ∧ w4.cell? ⟨w3.heap.size, 1, none⟩ = some (.int .i64 0)) := fun w4 h => ⟨cell_low F0.out.1 h, cell_low F0.out.2 h⟩
    clear bx
    have hmx : Try.prog.follows .mixedOrders = true := by kernel_rfl
    refine wp_region_held (S := fun w' => w'.cell? ⟨w3.heap.size, 0, none⟩ = some (.int .i64 0) ∧ w'.cell? ⟨w3.heap.size, 1, none⟩ = some (.int .i64 0)) hmx ?_
    refine wpAnyH_take (i := 0) (v := ?v1) rfl (by kernel_rfl) (by kernel_rfl) (by kernel_rfl) (fun _ _ _ h => h) (.inl ⟨by kernel_rfl, ?y1⟩) F0.out ?_
    case y1 =>
      rintro w' ⟨s1, s2⟩
      go_simp
      first | done | with_reducible rfl | rfl
    try simp only [Act.put]
    refine wpAnyH_take (i := 1) (v := ?v2) rfl (by kernel_rfl) (by kernel_rfl) (by kernel_rfl) (fun _ _ _ h => h) (.inl ⟨by kernel_rfl, ?y2⟩) F0.out ?_
    case y2 =>
      rintro w' ⟨s1, s2⟩
      go_simp
      first | done | with_reducible rfl | rfl
    try simp only [Act.put]
    refine wpAnyH_take (i := 3) (v := ?v3) rfl (by kernel_rfl) (by kernel_rfl) (by kernel_rfl) (fun _ _ _ h => h) (.inl ⟨by kernel_rfl, ?y3⟩) F0.out ?_
    case y3 =>
      rintro w' ⟨s1, s2⟩
      go_simp
      first | done | with_reducible rfl | rfl
    try simp only [Act.put]
    refine held_one (i := 2) (by kernel_rfl) rfl (by rfl) ?_
    unfold Oper.wp
    go_simp
    refine (OF1.out).mono ?_
    rintro e w4 ⟨v, rfl, hv, hb4⟩
    obtain ⟨V4, c4, rfl, _, _, r4, _⟩ := own_sliceS hv
    have q_l := Row.below (w := wz.drew) r_l hb4
    have F4 := Lib.hid (FB.out w4 hb4)
    have bb4 := Lib.hid (below_go bb.drew hb4)
    clear hb4 hv OF1 F0 FB
    refine ⟨F4.out, ?_⟩
    try simp only [Act.put]
    refine held_one (i := 4) (by kernel_rfl) rfl (by rfl) ?_
    unfold Oper.wp
    go_simp
    refine (samePairs_any V4 V_l _ _ c4 c_l [] [] w4 rfl rfl (by omega) r4 q_l).mono ?_
    rintro e w5 ⟨rfl, q, hq⟩
    rw [show decide (([] : List Pr) = []) = true by simp]
    have F5 : Hid (w5.cell? ⟨w3.heap.size, 0, none⟩ = some (.int .i64 0) ∧ w5.cell? ⟨w3.heap.size, 1, none⟩ = some (.int .i64 0)) := by rw [hq]; exact F4.out
    have bb5 := Lib.hid (below_drawn hq bb4.out)
    clear hq F4 bb4 r4 q_l
    refine ⟨F5.out, ?_⟩
    try simp only [Act.put]
    refine wpAnyH_take (i := 5) (v := ?v4) rfl (by kernel_rfl) (by kernel_rfl) (by kernel_rfl) (fun _ _ _ h => h) (.inl ⟨by kernel_rfl, ?y4⟩) F5.out ?_
    case y4 =>
      rintro w' ⟨s1, s2⟩
      go_simp
      first | done | with_reducible rfl | rfl
    try simp only [Act.put]
    refine wpAnyH_take (i := 6) (v := ?v5) rfl (by kernel_rfl) (by kernel_rfl) (by kernel_rfl) (fun _ _ _ h => h) (.inl ⟨by kernel_rfl, ?y5⟩) F5.out ?_
    case y5 =>
      rintro w' ⟨s1, s2⟩
      go_simp
      first | done | with_reducible rfl | rfl
    try simp only [Act.put]
    refine wpAnyH_take (i := 7) (v := ?v6) rfl (by kernel_rfl) (by kernel_rfl) (by kernel_rfl) (fun _ _ _ h => h) (.inl ⟨by kernel_rfl, ?y6⟩) F5.out ?_
    case y6 =>
      rintro w' ⟨s1, s2⟩
      go_simp
      first | done | with_reducible rfl | rfl
    try simp only [Act.put]
    refine wpAnyH_take (i := 8) (v := ?v7) rfl (by kernel_rfl) (by kernel_rfl) (by kernel_rfl) (fun _ _ _ h => h) (.inl ⟨by kernel_rfl, ?y7⟩) F5.out ?_
    case y7 =>
      rintro w' ⟨s1, s2⟩
      go_simp
      first | done | with_reducible rfl | rfl
    try simp only [Act.put]
    refine wpAnyH_take (i := 9) (v := ?v8) rfl (by kernel_rfl) (by kernel_rfl) (by kernel_rfl) (fun _ _ _ h => h) (.inl ⟨by kernel_rfl, ?y8⟩) F5.out ?_
    case y8 =>
      rintro w' ⟨s1, s2⟩
      go_simp
      first | done | with_reducible rfl | rfl
    try simp only [Act.put]
    refine wpAnyH_take (i := 10) (v := ?v9) rfl (by kernel_rfl) (by kernel_rfl) (by kernel_rfl) (fun _ _ _ h => h) (.inl ⟨by kernel_rfl, ?y9⟩) F5.out ?_
    case y9 =>
      rintro w' ⟨s1, s2⟩
      go_simp
      first | done | with_reducible rfl | rfl
    try simp only [Act.put]
    refine wpAnyH_take (i := 11) (v := ?v10) rfl (by kernel_rfl) (by kernel_rfl) (by kernel_rfl) (fun _ _ _ h => h) (.inl ⟨by kernel_rfl, ?y10⟩) F5.out ?_
    case y10 =>
      rintro w' ⟨s1, s2⟩
      go_simp
      first | done | with_reducible rfl | rfl
    try simp only [Act.put]
    refine wpAnyH_take (i := 12) (v := ?v11) rfl (by kernel_rfl) (by kernel_rfl) (by kernel_rfl) (fun _ _ _ h => h) (.inl ⟨by kernel_rfl, ?y11⟩) F5.out ?_
    case y11 =>
      rintro w' ⟨s1, s2⟩
      go_simp
      first | done | with_reducible rfl | rfl
    try simp only [Act.put]
    refine wpAnyH_take (i := 13) (v := ?v12) rfl (by kernel_rfl) (by kernel_rfl) (by kernel_rfl) (fun _ _ _ h => h) (.inl ⟨by kernel_rfl, ?y12⟩) F5.out ?_
    case y12 =>
      rintro w' ⟨s1, s2⟩
      go_simp
      first | done | with_reducible rfl | rfl
    try simp only [Act.put]
    refine wpAnyH_take (i := 14) (v := ?v13) rfl (by kernel_rfl) (by kernel_rfl) (by kernel_rfl) (fun _ _ _ h => h) (.inl ⟨by kernel_rfl, ?y13⟩) F5.out ?_
    case y13 =>
      rintro w' ⟨s1, s2⟩
      go_simp
      first | done | with_reducible rfl | rfl
    try simp only [Act.put]
    refine wpAnyH_take (i := 15) (v := ?v14) rfl (by kernel_rfl) (by kernel_rfl) (by kernel_rfl) (fun _ _ _ h => h) (.inl ⟨by kernel_rfl, ?y14⟩) F5.out ?_
    case y14 =>
      rintro w' ⟨s1, s2⟩
      go_simp
      first | done | with_reducible rfl | rfl
    try simp only [Act.put]
    refine wpAnyH_take (i := 16) (v := undef) rfl (by kernel_rfl) (by kernel_rfl) (by kernel_rfl) (fun _ _ _ h => h) (.inr ⟨by kernel_rfl, rfl⟩) F5.out ?_
    try simp only [Act.put]
    refine wpAnyH_take (i := 17) (v := undef) rfl (by kernel_rfl) (by kernel_rfl) (by kernel_rfl) (fun _ _ _ h => h) (.inr ⟨by kernel_rfl, rfl⟩) F5.out ?_
    try simp only [Act.put]
    refine wpAnyH_take (i := 18) (v := undef) rfl (by kernel_rfl) (by kernel_rfl) (by kernel_rfl) (fun _ _ _ h => h) (.inr ⟨by kernel_rfl, rfl⟩) F5.out ?_
    try simp only [Act.put]
    refine wpAnyH_take (i := 19) (v := undef) rfl (by kernel_rfl) (by kernel_rfl) (by kernel_rfl) (fun _ _ _ h => h) (.inr ⟨by kernel_rfl, rfl⟩) F5.out ?_
    try simp only [Act.put]
    refine wpAnyH_take (i := 20) (v := undef) rfl (by kernel_rfl) (by kernel_rfl) (by kernel_rfl) (fun _ _ _ h => h) (.inr ⟨by kernel_rfl, rfl⟩) F5.out ?_
    try simp only [Act.put]
    refine wpAnyH_take (i := 21) (v := ?v20) rfl (by kernel_rfl) (by kernel_rfl) (by kernel_rfl) (fun _ _ _ h => h) (.inl ⟨by kernel_rfl, ?y20⟩) F5.out ?_
    case y20 =>
      rintro w' ⟨s1, s2⟩
      go_simp
      first | done | with_reducible rfl | rfl
    try simp only [Act.put]
    refine wpAnyH_take (i := 22) (v := ?v21) rfl (by kernel_rfl) (by kernel_rfl) (by kernel_rfl) (fun _ _ _ h => h) (.inl ⟨by kernel_rfl, ?y21⟩) F5.out ?_
    case y21 =>
      rintro w' ⟨s1, s2⟩
      go_simp
      first | done | with_reducible rfl | rfl
    try simp only [Act.put]
    refine wpAnyH_take (i := 23) (v := ?v22) rfl (by kernel_rfl) (by kernel_rfl) (by kernel_rfl) (fun _ _ _ h => h) (.inl ⟨by kernel_rfl, ?y22⟩) F5.out ?_
    case y22 =>
      rintro w' ⟨s1, s2⟩
      go_simp
      first | done | with_reducible rfl | rfl
    try simp only [Act.put]
    refine wpAnyH_take (i := 24) (v := ?v23) rfl (by kernel_rfl) (by kernel_rfl) (by kernel_rfl) (fun _ _ _ h => h) (.inl ⟨by kernel_rfl, ?y23⟩) F5.out ?_
    case y23 =>
      rintro w' ⟨s1, s2⟩
      go_simp
      first | done | with_reducible rfl | rfl
    try simp only [Act.put]
    refine wpAnyH_take (i := 25) (v := ?v24) rfl (by kernel_rfl) (by kernel_rfl) (by kernel_rfl) (fun _ _ _ h => h) (.inl ⟨by kernel_rfl, ?y24⟩) F5.out ?_
    case y24 =>
      rintro w' ⟨s1, s2⟩
      go_simp
      first | done | with_reducible rfl | rfl
    try simp only [Act.put]
    refine wpAnyH_take (i := 26) (v := ?v25) rfl (by kernel_rfl) (by kernel_rfl) (by kernel_rfl) (fun _ _ _ h => h) (.inl ⟨by kernel_rfl, ?y25⟩) F5.out ?_
    case y25 =>
      rintro w' ⟨s1, s2⟩
      go_simp
      first | done | with_reducible rfl | rfl
    try simp only [Act.put]
    refine wpAnyH_take (i := 27) (v := ?v26) rfl (by kernel_rfl) (by kernel_rfl) (by kernel_rfl) (fun _ _ _ h => h) (.inl ⟨by kernel_rfl, ?y26⟩) F5.out ?_
    case y26 =>
      rintro w' ⟨s1, s2⟩
      go_simp
      first | done | with_reducible rfl | rfl
    try simp only [Act.put]
    refine wpAnyH_take (i := 28) (v := ?v27) rfl (by kernel_rfl) (by kernel_rfl) (by kernel_rfl) (fun _ _ _ h => h) (.inl ⟨by kernel_rfl, ?y27⟩) F5.out ?_
    case y27 =>
      rintro w' ⟨s1, s2⟩
      go_simp
      first | done | with_reducible rfl | rfl
    try simp only [Act.put]
    refine wpAnyH_take (i := 29) (v := ?v28) rfl (by kernel_rfl) (by kernel_rfl) (by kernel_rfl) (fun _ _ _ h => h) (.inl ⟨by kernel_rfl, ?y28⟩) F5.out ?_
    case y28 =>
      rintro w' ⟨s1, s2⟩
      go_simp
      first | done | with_reducible rfl | rfl
    try simp only [Act.put]
    refine wpAnyH_take (i := 30) (v := ?v29) rfl (by kernel_rfl) (by kernel_rfl) (by kernel_rfl) (fun _ _ _ h => h) (.inl ⟨by kernel_rfl, ?y29⟩) F5.out ?_
    case y29 =>
      rintro w' ⟨s1, s2⟩
      go_simp
      first | done | with_reducible rfl | rfl
    try simp only [Act.put]
    refine wpAnyH_take (i := 31) (v := ?v30) rfl (by kernel_rfl) (by kernel_rfl) (by kernel_rfl) (fun _ _ _ h => h) (.inl ⟨by kernel_rfl, ?y30⟩) F5.out ?_
    case y30 =>
      rintro w' ⟨s1, s2⟩
      go_simp
      first | done | with_reducible rfl | rfl
    try simp only [Act.put]
    refine held_done (by kernel_rfl) ?_
    go_simp
    go_wp2_with fail
    go_ret
    exact Yes.of bb5.out
  | cons z l =>
    obtain ⟨z1, z2⟩ := z
    obtain ⟨N, hN⟩ : ∃ N, ((z1, z2) :: l).length = N := ⟨_, rfl⟩
    have HN := Lib.hid hN
    rw [hN] at hM hq_l ⊢
    have hN0 : 0 < N := by rw [← hN]; simp
    have t1 : decide (0 < (N : Int)) = true := by simp; omega
    have t2 : decide (0 < N) = true := by simp; omega
    clear hN
    rw [show hdP ((z1, z2) :: l) = (z1, z2) from rfl, t2]
    have bx := bxP_new w3 z1 z2
    have B1 : Below w3.heap.size w3 (w3.alloc (.cells #[.int .i64 z1, .int .i64 z2] 26)) := below_a1 _ _
    replace r_l := r_l.below B1
    replace bb := below_go bb B1
    go_wp2_with fail
    generalize hz : w3.alloc (.cells #[.int .i64 z1, .int .i64 z2] 26) = wz at *
    clear hz
    have OF1 := Lib.hid (OF.out wz.drew B1.drew)
    clear OF B1 r_a r_b
    obtain ⟨g, o, rfl, k1, k2⟩ := r_l.pair (k := 0) (by simp)
    simp only [List.getElem_cons_zero, Nat.zero_mul, Nat.add_zero] at k1 k2
    have F0 : Hid (wz.drew.cell? ⟨w3.heap.size, 0, none⟩ = some (.int .i64 z1) ∧ wz.drew.cell? ⟨w3.heap.size, 1, none⟩ = some (.int .i64 z2) ∧ wz.drew.cell? ⟨g, o, none⟩ = some (.int .i64 z1) ∧ wz.drew.cell? ⟨g, o + 1, none⟩ = some (.int .i64 z2)) := ⟨bx.cells.1, bx.cells.2.1, k1, k2⟩
    have FB : Hid (∀ w4, Below wz.drew.heap.size wz.drew w4 → w4.cell? ⟨w3.heap.size, 0, none⟩ = some (.int .i64 z1) ∧ w4.cell? ⟨w3.heap.size, 1, none⟩ = some (.int .i64 z2) ∧ w4.cell? ⟨g, o, none⟩ = some (.int .i64 z1) ∧ w4.cell? ⟨g, o + 1, none⟩ = some (.int .i64 z2)) := fun w4 h => ⟨cell_low F0.out.1 h, cell_low F0.out.2.1 h, cell_low F0.out.2.2.1 h, cell_low F0.out.2.2.2 h⟩
    clear k1 k2 bx
    have hmx : Try.prog.follows .mixedOrders = true := by kernel_rfl
    refine wp_region_held (S := fun w' => w'.cell? ⟨w3.heap.size, 0, none⟩ = some (.int .i64 z1) ∧ w'.cell? ⟨w3.heap.size, 1, none⟩ = some (.int .i64 z2) ∧ w'.cell? ⟨g, o, none⟩ = some (.int .i64 z1) ∧ w'.cell? ⟨g, o + 1, none⟩ = some (.int .i64 z2)) hmx ?_
    refine wpAnyH_take (i := 0) (v := ?v31) rfl (by kernel_rfl) (by kernel_rfl) (by kernel_rfl) (fun _ _ _ h => h) (.inl ⟨by kernel_rfl, ?y31⟩) F0.out ?_
    case y31 =>
      rintro w' ⟨s1, s2, s3, s4⟩
      go_simp
      try simp only [t1, t2]
      first | done | with_reducible rfl | rfl
    try simp only [Act.put]
    refine wpAnyH_take (i := 1) (v := ?v32) rfl (by kernel_rfl) (by kernel_rfl) (by kernel_rfl) (fun _ _ _ h => h) (.inl ⟨by kernel_rfl, ?y32⟩) F0.out ?_
    case y32 =>
      rintro w' ⟨s1, s2, s3, s4⟩
      go_simp
      try simp only [t1, t2]
      first | done | with_reducible rfl | rfl
    try simp only [Act.put]
    refine wpAnyH_take (i := 3) (v := ?v33) rfl (by kernel_rfl) (by kernel_rfl) (by kernel_rfl) (fun _ _ _ h => h) (.inl ⟨by kernel_rfl, ?y33⟩) F0.out ?_
    case y33 =>
      rintro w' ⟨s1, s2, s3, s4⟩
      go_simp
      try simp only [t1, t2]
      first | done | with_reducible rfl | rfl
    try simp only [Act.put]
    refine held_one (i := 2) (by kernel_rfl) rfl (by rfl) ?_
    unfold Oper.wp
    go_simp
    refine (OF1.out).mono ?_
    rintro e w4 ⟨v, rfl, hv, hb4⟩
    rw [HN.out] at hv
    obtain ⟨V4, c4, rfl, _, _, r4, _⟩ := own_sliceS hv
    have q_l := Row.below (w := wz.drew) r_l hb4
    have F4 := Lib.hid (FB.out w4 hb4)
    have bb4 := Lib.hid (below_go bb.drew hb4)
    clear hb4 hv OF1 F0 FB
    refine ⟨F4.out, ?_⟩
    try simp only [Act.put]
    refine held_one (i := 4) (by kernel_rfl) rfl (by rfl) ?_
    unfold Oper.wp
    go_simp
    refine (samePairs_any V4 (some ⟨g, o, none⟩) _ _ c4 c_l ((z1, z2) :: l) ((z1, z2) :: l) w4 HN.out HN.out (by omega) r4 q_l).mono ?_
    rintro e w5 ⟨rfl, q, hq⟩
    rw [show decide ((((z1, z2) :: l) : List Pr) = ((z1, z2) :: l)) = true by simp]
    have F5 : Hid (w5.cell? ⟨w3.heap.size, 0, none⟩ = some (.int .i64 z1) ∧ w5.cell? ⟨w3.heap.size, 1, none⟩ = some (.int .i64 z2) ∧ w5.cell? ⟨g, o, none⟩ = some (.int .i64 z1) ∧ w5.cell? ⟨g, o + 1, none⟩ = some (.int .i64 z2)) := by rw [hq]; exact F4.out
    have bb5 := Lib.hid (below_drawn hq bb4.out)
    clear hq F4 bb4 r4 q_l
    refine ⟨F5.out, ?_⟩
    try simp only [Act.put]
    refine wpAnyH_take (i := 5) (v := ?v34) rfl (by kernel_rfl) (by kernel_rfl) (by kernel_rfl) (fun _ _ _ h => h) (.inl ⟨by kernel_rfl, ?y34⟩) F5.out ?_
    case y34 =>
      rintro w' ⟨s1, s2, s3, s4⟩
      go_simp
      try simp only [t1, t2]
      first | done | with_reducible rfl | rfl
    try simp only [Act.put]
    refine wpAnyH_take (i := 6) (v := ?v35) rfl (by kernel_rfl) (by kernel_rfl) (by kernel_rfl) (fun _ _ _ h => h) (.inl ⟨by kernel_rfl, ?y35⟩) F5.out ?_
    case y35 =>
      rintro w' ⟨s1, s2, s3, s4⟩
      go_simp
      try simp only [t1, t2]
      first | done | with_reducible rfl | rfl
    try simp only [Act.put]
    refine wpAnyH_take (i := 7) (v := ?v36) rfl (by kernel_rfl) (by kernel_rfl) (by kernel_rfl) (fun _ _ _ h => h) (.inl ⟨by kernel_rfl, ?y36⟩) F5.out ?_
    case y36 =>
      rintro w' ⟨s1, s2, s3, s4⟩
      go_simp
      try simp only [t1, t2]
      first | done | with_reducible rfl | rfl
    try simp only [Act.put]
    refine wpAnyH_take (i := 8) (v := ?v37) rfl (by kernel_rfl) (by kernel_rfl) (by kernel_rfl) (fun _ _ _ h => h) (.inl ⟨by kernel_rfl, ?y37⟩) F5.out ?_
    case y37 =>
      rintro w' ⟨s1, s2, s3, s4⟩
      go_simp
      try simp only [t1, t2]
      first | done | with_reducible rfl | rfl
    try simp only [Act.put]
    refine wpAnyH_take (i := 9) (v := ?v38) rfl (by kernel_rfl) (by kernel_rfl) (by kernel_rfl) (fun _ _ _ h => h) (.inl ⟨by kernel_rfl, ?y38⟩) F5.out ?_
    case y38 =>
      rintro w' ⟨s1, s2, s3, s4⟩
      go_simp
      try simp only [t1, t2]
      first | done | with_reducible rfl | rfl
    try simp only [Act.put]
    refine wpAnyH_take (i := 10) (v := ?v39) rfl (by kernel_rfl) (by kernel_rfl) (by kernel_rfl) (fun _ _ _ h => h) (.inl ⟨by kernel_rfl, ?y39⟩) F5.out ?_
    case y39 =>
      rintro w' ⟨s1, s2, s3, s4⟩
      go_simp
      try simp only [t1, t2]
      first | done | with_reducible rfl | rfl
    try simp only [Act.put]
    refine wpAnyH_take (i := 11) (v := ?v40) rfl (by kernel_rfl) (by kernel_rfl) (by kernel_rfl) (fun _ _ _ h => h) (.inl ⟨by kernel_rfl, ?y40⟩) F5.out ?_
    case y40 =>
      rintro w' ⟨s1, s2, s3, s4⟩
      go_simp
      try simp only [t1, t2]
      first | done | with_reducible rfl | rfl
    try simp only [Act.put]
    refine wpAnyH_take (i := 12) (v := ?v41) rfl (by kernel_rfl) (by kernel_rfl) (by kernel_rfl) (fun _ _ _ h => h) (.inl ⟨by kernel_rfl, ?y41⟩) F5.out ?_
    case y41 =>
      rintro w' ⟨s1, s2, s3, s4⟩
      go_simp
      try simp only [t1, t2]
      first | done | with_reducible rfl | rfl
    try simp only [Act.put]
    refine wpAnyH_take (i := 13) (v := ?v42) rfl (by kernel_rfl) (by kernel_rfl) (by kernel_rfl) (fun _ _ _ h => h) (.inl ⟨by kernel_rfl, ?y42⟩) F5.out ?_
    case y42 =>
      rintro w' ⟨s1, s2, s3, s4⟩
      go_simp
      try simp only [t1, t2]
      first | done | with_reducible rfl | rfl
    try simp only [Act.put]
    refine wpAnyH_take (i := 14) (v := ?v43) rfl (by kernel_rfl) (by kernel_rfl) (by kernel_rfl) (fun _ _ _ h => h) (.inl ⟨by kernel_rfl, ?y43⟩) F5.out ?_
    case y43 =>
      rintro w' ⟨s1, s2, s3, s4⟩
      go_simp
      try simp only [t1, t2]
      first | done | with_reducible rfl | rfl
    try simp only [Act.put]
    refine wpAnyH_take (i := 15) (v := ?v44) rfl (by kernel_rfl) (by kernel_rfl) (by kernel_rfl) (fun _ _ _ h => h) (.inl ⟨by kernel_rfl, ?y44⟩) F5.out ?_
    case y44 =>
      rintro w' ⟨s1, s2, s3, s4⟩
      go_simp
      try simp only [t1, t2]
      first | done | with_reducible rfl | rfl
    try simp only [Act.put]
    refine wpAnyH_take (i := 16) (v := ?v45) rfl (by kernel_rfl) (by kernel_rfl) (by kernel_rfl) (fun _ _ _ h => h) (.inl ⟨by kernel_rfl, ?y45⟩) F5.out ?_
    case y45 =>
      rintro w' ⟨s1, s2, s3, s4⟩
      go_simp
      try simp only [t1, t2]
      first | done | with_reducible rfl | rfl
    try simp only [Act.put]
    refine wpAnyH_take (i := 17) (v := ?v46) rfl (by kernel_rfl) (by kernel_rfl) (by kernel_rfl) (fun _ _ _ h => h) (.inl ⟨by kernel_rfl, ?y46⟩) F5.out ?_
    case y46 =>
      rintro w' ⟨s1, s2, s3, s4⟩
      go_simp
      try simp only [t1, t2]
      first | done | with_reducible rfl | rfl
    try simp only [Act.put]
    refine wpAnyH_take (i := 18) (v := ?v47) rfl (by kernel_rfl) (by kernel_rfl) (by kernel_rfl) (fun _ _ _ h => h) (.inl ⟨by kernel_rfl, ?y47⟩) F5.out ?_
    case y47 =>
      rintro w' ⟨s1, s2, s3, s4⟩
      go_simp
      try simp only [t1, t2]
      first | done | with_reducible rfl | rfl
    try simp only [Act.put]
    refine wpAnyH_take (i := 19) (v := ?v48) rfl (by kernel_rfl) (by kernel_rfl) (by kernel_rfl) (fun _ _ _ h => h) (.inl ⟨by kernel_rfl, ?y48⟩) F5.out ?_
    case y48 =>
      rintro w' ⟨s1, s2, s3, s4⟩
      go_simp
      try simp only [t1, t2]
      first | done | with_reducible rfl | rfl
    try simp only [Act.put]
    refine wpAnyH_take (i := 20) (v := ?v49) rfl (by kernel_rfl) (by kernel_rfl) (by kernel_rfl) (fun _ _ _ h => h) (.inl ⟨by kernel_rfl, ?y49⟩) F5.out ?_
    case y49 =>
      rintro w' ⟨s1, s2, s3, s4⟩
      go_simp
      try simp only [t1, t2]
      first | done | with_reducible rfl | rfl
    try simp only [Act.put]
    refine wpAnyH_take (i := 21) (v := ?v50) rfl (by kernel_rfl) (by kernel_rfl) (by kernel_rfl) (fun _ _ _ h => h) (.inl ⟨by kernel_rfl, ?y50⟩) F5.out ?_
    case y50 =>
      rintro w' ⟨s1, s2, s3, s4⟩
      go_simp
      try simp only [t1, t2]
      first | done | with_reducible rfl | rfl
    try simp only [Act.put]
    refine wpAnyH_take (i := 22) (v := ?v51) rfl (by kernel_rfl) (by kernel_rfl) (by kernel_rfl) (fun _ _ _ h => h) (.inl ⟨by kernel_rfl, ?y51⟩) F5.out ?_
    case y51 =>
      rintro w' ⟨s1, s2, s3, s4⟩
      go_simp
      try simp only [t1, t2]
      first | done | with_reducible rfl | rfl
    try simp only [Act.put]
    refine wpAnyH_take (i := 23) (v := ?v52) rfl (by kernel_rfl) (by kernel_rfl) (by kernel_rfl) (fun _ _ _ h => h) (.inl ⟨by kernel_rfl, ?y52⟩) F5.out ?_
    case y52 =>
      rintro w' ⟨s1, s2, s3, s4⟩
      go_simp
      try simp only [t1, t2]
      first | done | with_reducible rfl | rfl
    try simp only [Act.put]
    refine wpAnyH_take (i := 24) (v := ?v53) rfl (by kernel_rfl) (by kernel_rfl) (by kernel_rfl) (fun _ _ _ h => h) (.inl ⟨by kernel_rfl, ?y53⟩) F5.out ?_
    case y53 =>
      rintro w' ⟨s1, s2, s3, s4⟩
      go_simp
      try simp only [t1, t2]
      first | done | with_reducible rfl | rfl
    try simp only [Act.put]
    refine wpAnyH_take (i := 25) (v := ?v54) rfl (by kernel_rfl) (by kernel_rfl) (by kernel_rfl) (fun _ _ _ h => h) (.inl ⟨by kernel_rfl, ?y54⟩) F5.out ?_
    case y54 =>
      rintro w' ⟨s1, s2, s3, s4⟩
      go_simp
      try simp only [t1, t2]
      first | done | with_reducible rfl | rfl
    try simp only [Act.put]
    refine wpAnyH_take (i := 26) (v := undef) rfl (by kernel_rfl) (by kernel_rfl) (by kernel_rfl) (fun _ _ _ h => h) (.inr ⟨by kernel_rfl, rfl⟩) F5.out ?_
    try simp only [Act.put]
    refine wpAnyH_take (i := 27) (v := undef) rfl (by kernel_rfl) (by kernel_rfl) (by kernel_rfl) (fun _ _ _ h => h) (.inr ⟨by kernel_rfl, rfl⟩) F5.out ?_
    try simp only [Act.put]
    refine wpAnyH_take (i := 28) (v := undef) rfl (by kernel_rfl) (by kernel_rfl) (by kernel_rfl) (fun _ _ _ h => h) (.inr ⟨by kernel_rfl, rfl⟩) F5.out ?_
    try simp only [Act.put]
    refine wpAnyH_take (i := 29) (v := ?v58) rfl (by kernel_rfl) (by kernel_rfl) (by kernel_rfl) (fun _ _ _ h => h) (.inl ⟨by kernel_rfl, ?y58⟩) F5.out ?_
    case y58 =>
      rintro w' ⟨s1, s2, s3, s4⟩
      go_simp
      try simp only [t1, t2]
      first | done | with_reducible rfl | rfl
    try simp only [Act.put]
    refine wpAnyH_take (i := 30) (v := ?v59) rfl (by kernel_rfl) (by kernel_rfl) (by kernel_rfl) (fun _ _ _ h => h) (.inl ⟨by kernel_rfl, ?y59⟩) F5.out ?_
    case y59 =>
      rintro w' ⟨s1, s2, s3, s4⟩
      go_simp
      try simp only [t1, t2]
      first | done | with_reducible rfl | rfl
    try simp only [Act.put]
    refine wpAnyH_take (i := 31) (v := ?v60) rfl (by kernel_rfl) (by kernel_rfl) (by kernel_rfl) (fun _ _ _ h => h) (.inl ⟨by kernel_rfl, ?y60⟩) F5.out ?_
    case y60 =>
      rintro w' ⟨s1, s2, s3, s4⟩
      go_simp
      try simp only [t1, t2]
      first | done | with_reducible rfl | rfl
    try simp only [Act.put]
    refine held_done (by kernel_rfl) ?_
    go_simp
    go_wp2_with fail
    go_ret
    exact Yes.of bb5.out

/-! ### The row's step -/
theorem own : ownKnob Try.prog.godebug = none := by kernel_rfl
theorem laidOut : laidOutB Try.prog = true := by kernel_rfl

theorem contract (H : Type) (enc : TypeId × Value → H) (W : World) (base : Nat) (args : Array Value) (ds gs : List (DataW H)) (before : List MemPlace)
    (hval : ∀ (j : Nat) t v, Try.f4.params[j]? = some t → args[j]? = some v → Value.okWide Try.prog W .any base t v)
    (hW : DataW.Whole enc Try.prog Try.f4.params.toList Rows.leastSaysSpec.vars false W args.toList ds gs before) :
    Calls Try.prog 4 args W fun e W' => ∃ v, e = .returned v ∧ Rows.leastSaysSpec.post enc Try.prog Try.f4 false true false false W args v W' := by
  have hW' := hW
  obtain ⟨p, q, hA0, hV, rfl, hfz, hnd⟩ := hW
  have hA : DataW.TrodAll enc Try.prog W 0 (fun _ => true) true Try.f4.params.toList args.toList ds p := hA0
  rw [Try.params4] at hA hval
  obtain ⟨v0, vs0, d0, ds0, p0, q0, hargs, rfl, rfl, h0, r0⟩ := trodAll_cons hA
  obtain ⟨v1, vs1, d1, ds1, p1, q1, rfl, rfl, rfl, h1, r1⟩ := trodAll_cons r0
  obtain ⟨rfl, rfl, rfl⟩ := trodAll_nil r1
  obtain rfl : args = #[v0, v1] := by cases args; simp_all
  obtain ⟨rfl, rfl⟩ := trodVars_none hV
  have k0 := h0
  have lt0 : ∀ x ∈ p0, x.block < W.heap.size := by obtain ⟨m, hm⟩ := k0; exact DataW.trod_lt m _ _ _ hm
  obtain ⟨A0, n0, c0, e0⟩ := okWide_slice Try.underlying24 (hval 0 24 v0 rfl rfl)
  subst e0
  obtain ⟨l0, w0⟩ := open_argI Try.underlying24 Try.underlying3 (by kernel_rfl) h0
  have k1 := h1
  have lt1 : ∀ x ∈ p1, x.block < W.heap.size := by obtain ⟨m, hm⟩ := k1; exact DataW.trod_lt m _ _ _ hm
  obtain ⟨A1, n1, c1, e1⟩ := okWide_slice Try.underlying24 (hval 1 24 v1 rfl rfl)
  subst e1
  obtain ⟨l1, w1⟩ := open_argI Try.underlying24 Try.underlying3 (by kernel_rfl) h1
  clear hA0
  refine (leastSays_walk A0 n0 c0 l0 A1 n1 c1 l1 W w0 w1).mono fun e W' ⟨he, bel⟩ => ?_
  subst he
  exact ⟨_, rfl, _, _, _, [], _, [], hW', trodAll_mk1 (shut_bool Try.underlying4 _), (trodAll_cons_mk (Below.trod laidOut (by kernel_rfl) (of_decide_eq_true (by kernel_rfl)) k0 bel lt0) (trodAll_cons_mk (Below.trod laidOut (by kernel_rfl) (of_decide_eq_true (by kernel_rfl)) k1 bel lt1) trodAll_mk0)), rfl, bel.frame _, fun h => by cases h⟩

set_option maxRecDepth 100000 in
theorem lifted (os : Os) (started : os.Started) (H : Type) (enc : TypeId × Value → H) :
    ReturnsInHanded {} Try.checked os 4 .any (Rows.leastSaysSpec.pre6 enc Try.prog Try.f4 Rows.leastSaysRow.domain false) (Rows.leastSaysSpec.post enc Try.prog Try.f4 false true false false) := by
  refine returnsInHanded_of_change (C := Try.checked) own started (by kernel_rfl) Try.func4
    (ChangeSpec.witness6 (enc := enc) (C := Try.checked) false ⟨#[], #[.slice none 0 0, .slice none 0 0], []⟩ 8 (by kernel_rfl) (by kernel_rfl) (by kernel_rfl) (by kernel_rfl)) ?_
  intro W base args ds gs before hval hW _ _
  exact contract H enc W base args ds gs before hval hW

/-- The statement. -/
theorem proved : Rows.LeastSaysSaid :=
  OpenClaim.holds_of_wide 4 Try.f4 rfl rfl rfl rfl rfl rfl rfl ⟨rfl, rfl, rfl, rfl, rfl⟩ rfl rfl rfl rfl rfl (by kernel_rfl) Try.func4 (by kernel_rfl)
    (of_decide_eq_true (by kernel_rfl)) (by unfold Func.isWrapper; first | (rw [if_pos (by decide +kernel)]; kernel_rfl) | (rw [if_neg (by decide +kernel)]; exact ⟨rfl, rfl⟩))
    (fun os started H enc _ => lifted os started H enc)

end Go.Proofs.Ytobijkjonnoeiaa.leastSaysP
