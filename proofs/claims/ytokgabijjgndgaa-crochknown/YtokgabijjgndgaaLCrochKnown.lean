/-
  Proved: tattinglaw21.CrochKnown returns true.
-/
import Derived.Test.YtokgabijjgndgaaM33
import Derived.Test.YtokgabijjgndgaaM20
import Derived.Test.YtokgabijjgndgaaM34
namespace Go.Proofs.Ytokgabijjgndgaa.crochKnownP
open Go.ChangeShapes Go.WideShapes Go.ChangeAt Go.RowKit

/-- Cells that are read. -/
def KnS (gx ox gy oy gr orr : Nat) (a b c r0 r1 : Value) (w : World) : Prop :=
  w.cell? ⟨gx, ox, none⟩ = some a ∧ w.cell? ⟨gx, ox + 1, none⟩ = some b ∧ w.cell? ⟨gy, oy, none⟩ = some c ∧ w.cell? ⟨gr, orr, none⟩ = some r0 ∧ w.cell? ⟨gr, orr + 1, none⟩ = some r1
theorem cell_below {w w' : World} {p : Addr} {v : Value} (h : w.cell? p = some v) (hb : Below w.heap.size w w') : w'.cell? p = some v := (hb.cell (World.block_lt_of_cell? _ _ h)).trans h
theorem KnS.below {gx ox gy oy gr orr : Nat} {a b c r0 r1 : Value} {w w' : World} (h : KnS gx ox gy oy gr orr a b c r0 r1 w) (hb : Below w.heap.size w w') : KnS gx ox gy oy gr orr a b c r0 r1 w' :=
  ⟨cell_below h.1 hb, cell_below h.2.1 hb, cell_below h.2.2.1 hb, cell_below h.2.2.2.1 hb, cell_below h.2.2.2.2 hb⟩

set_option maxRecDepth 100000 in
set_option maxHeartbeats 3200000 in
theorem crochKnown_walk (w : World) : Calls Try.prog 3 #[] w (Yes w) := by
  obtain ⟨i0, hi, hz0, hz1, hz2⟩ := info_parts Try.infoInt
  go_enter Try.func3, Try.ntmps3
  go_wp2_with fail
  refine (crow_any _ _ 2 1 2 1 [18446744073709551615, 18446744073709551615] [9223372036854775808] (65) _ rfl rfl (by decide) (by decide) (by decide) (by decide) (i64_small (by decide)) ((row_lit (uv [18446744073709551615, 18446744073709551615]) 24 (by simp)).alloc _) (row_lit (uv [9223372036854775808]) 24 (by simp)) (wd_all (by decide)) (wd_all (by decide))).mono ?_
  intro e w1 hv
  rw [show wdsVc3 (65) = 2 by decide] at hv
  obtain ⟨A_x, c_x, x_x, rfl, h1, _, _, h2, h3, r_x, hb⟩ := madeV_words hv
  clear hv
  have B := below_go (below_al (below_al (Below.refl _ _) _) _) hb
  have bb := B
  clear B hb
  have ex : x_x = [9223372036854775807, 1] := made_is [9223372036854775807, 1] h1 h2 h3 rfl (wd_all (by decide)) (by decide +kernel)
  subst ex
  clear h1 h2 h3
  go_wp2_with fail
  refine (crow_any _ _ 1 1 1 1 [255] [255] (3) _ rfl rfl (by decide) (by decide) (by decide) (by decide) (i64_small (by decide)) ((row_lit (uv [255]) 24 (by simp)).alloc _) (row_lit (uv [255]) 24 (by simp)) (wd_all (by decide)) (wd_all (by decide))).mono ?_
  intro e w2 hv
  rw [show wdsVc3 (3) = 1 by decide] at hv
  obtain ⟨A_y, c_y, x_y, rfl, h1, _, _, h2, h3, r_y, hb⟩ := madeV_words hv
  clear hv
  have B := below_go (below_al (below_al (Below.refl _ _) _) _) hb
  replace r_x := r_x.below B
  replace bb := below_go bb B
  clear B hb
  have ex : x_y = [6] := made_is [6] h1 h2 h3 rfl (wd_all (by decide)) (by decide +kernel)
  subst ex
  clear h1 h2 h3
  go_wp2_with fail
  refine (crows_any _ _ 1 0 1 0 [1] [] _ rfl rfl (by decide) (by decide) (row_lit (iv [1]) 3 (by simp)) (Row.nil _ _) (by decide) (by decide)).mono ?_
  intro e w3 hv
  rw [show wdsVc3 ((0 : Nat) : Int) = 0 by decide] at hv
  obtain ⟨A_r, c_r, rfl, _, _, r_r, hb⟩ := hv
  have B := below_go (below_al (Below.refl _ _) _) hb
  replace r_x := r_x.below B
  replace r_y := r_y.below B
  replace bb := below_go bb B
  clear B hb
  go_wp2_with (at_make; refine wpList_make_row _ rfl _ _ 27 rfl 3 i0 (.int .i64 0) Try.underlying27 hi hz0 hz1 rfl .i64 .i64 70 rfl rfl (by rw [hz2]; decide) (by decide) ?_)
  have r_z := row_zeros (w := w3) 70 3
  have bz := below_a1 w3 (.cells (madeCells #[.int .i64 0] 70) 3)
  replace r_x := r_x.below bz
  replace r_y := r_y.below bz
  replace r_r := r_r.below bz
  replace bb := below_go bb bz
  clear bz
  generalize w3.heap.size = bZ at *
  generalize w3.alloc (.cells (madeCells #[.int .i64 0] 70) 3) = wz at *
  obtain ⟨g_x, o_x, rfl, q_x0⟩ := r_x.word (k := 0) (by decide)
  simp only [List.getElem_cons_zero, Nat.add_zero] at q_x0
  obtain ⟨g1, o1, e1, q_x1⟩ := r_x.word (k := 1) (by decide)
  cases e1
  simp only [List.getElem_cons_zero, List.getElem_cons_succ] at q_x1
  obtain ⟨g_y, o_y, rfl, q_y0⟩ := r_y.word (k := 0) (by decide)
  simp only [List.getElem_cons_zero, Nat.add_zero] at q_y0
  obtain ⟨g_r, o_r, A_r0, c_r0, x_r0, rfl, q_r0, _, _, h1, h2, h3, r_r0⟩ := r_r.cell (k := 0) (by decide)
  simp only [Nat.add_zero] at q_r0
  have ex : x_r0 = [] := words_is (W := 0) [] h1 h2 h3 rfl (wd_all (by decide)) (by decide +kernel)
  subst ex
  clear h1 h2 h3
  obtain ⟨g1, o1, A_r1, c_r1, x_r1, e1, q_r1, _, _, h1, h2, h3, r_r1⟩ := r_r.cell (k := 1) (by decide)
  cases e1
  have ex : x_r1 = [] := words_is (W := 0) [] h1 h2 h3 rfl (wd_all (by decide)) (by decide +kernel)
  subst ex
  clear h1 h2 h3
  have HS0 : Hid ((KnS g_x o_x g_y o_y g_r o_r (.int .u64 9223372036854775807) (.int .u64 1) (.int .u64 6) (.slice A_r0 0 c_r0) (.slice A_r1 0 c_r1)) wz.drew) := ⟨q_x0, q_x1, q_y0, q_r0, q_r1⟩
  have BB0 : Hid (Below w.heap.size w wz.drew) := bb.drew
  have RZ0 : Hid (Row wz.drew (some ⟨bZ, 0, none⟩) (iv (List.replicate 70 0))) := r_z
  have hmx : Try.prog.follows .mixedOrders = true := by kernel_rfl
  clear q_x0 q_x1 q_y0 q_r0 q_r1 bb r_z r_x r_y r_r r_r0 r_r1
  refine wp_region_held (S := KnS g_x o_x g_y o_y g_r o_r (.int .u64 9223372036854775807) (.int .u64 1) (.int .u64 6) (.slice A_r0 0 c_r0) (.slice A_r1 0 c_r1)) hmx ?_
  refine held_one (i := 0) (by kernel_rfl) rfl (by kernel_rfl) ?_
  unfold Oper.wp
  go_simp
  refine (awake21 wz.drew).mono ?_
  rintro e v0 ⟨rfl, hb⟩
  have HS1 := Lib.hid (HS0.out.below hb)
  have BB1 := Lib.hid (below_go BB0.out hb)
  have RZ1 := Lib.hid (RZ0.out.below hb)
  clear HS0 BB0 RZ0 hb
  refine ⟨HS1.out, ?_⟩
  try simp only [Act.put]
  refine wpAnyH_take (i := 1) (v := ?v1) rfl (by kernel_rfl) (by kernel_rfl) (by kernel_rfl) (fun _ _ _ h => h) (.inl ⟨by kernel_rfl, ?y1⟩) HS1.out ?_
  case y1 =>
    rintro w' ⟨s0, s1, s2, s3, s4⟩
    go_simp
    first | done | with_reducible rfl | rfl
  try simp only [Act.put]
  refine wpAnyH_take (i := 2) (v := ?v2) rfl (by kernel_rfl) (by kernel_rfl) (by kernel_rfl) (fun _ _ _ h => h) (.inl ⟨by kernel_rfl, ?y2⟩) HS1.out ?_
  case y2 =>
    rintro w' ⟨s0, s1, s2, s3, s4⟩
    go_simp
    first | done | with_reducible rfl | rfl
  try simp only [Act.put]
  refine wpAnyH_take (i := 3) (v := ?v3) rfl (by kernel_rfl) (by kernel_rfl) (by kernel_rfl) (fun _ _ _ h => h) (.inl ⟨by kernel_rfl, ?y3⟩) HS1.out ?_
  case y3 =>
    rintro w' ⟨s0, s1, s2, s3, s4⟩
    go_simp
    first | done | with_reducible rfl | rfl
  try simp only [Act.put]
  refine wpAnyH_take (i := 4) (v := ?v4) rfl (by kernel_rfl) (by kernel_rfl) (by kernel_rfl) (fun _ _ _ h => h) (.inl ⟨by kernel_rfl, ?y4⟩) HS1.out ?_
  case y4 =>
    rintro w' ⟨s0, s1, s2, s3, s4⟩
    go_simp
    first | done | with_reducible rfl | rfl
  try simp only [Act.put]
  refine wpAnyH_take (i := 5) (v := ?v5) rfl (by kernel_rfl) (by kernel_rfl) (by kernel_rfl) (fun _ _ _ h => h) (.inl ⟨by kernel_rfl, ?y5⟩) HS1.out ?_
  case y5 =>
    rintro w' ⟨s0, s1, s2, s3, s4⟩
    go_simp
    first | done | with_reducible rfl | rfl
  try simp only [Act.put]
  refine wpAnyH_take (i := 6) (v := ?v6) rfl (by kernel_rfl) (by kernel_rfl) (by kernel_rfl) (fun _ _ _ h => h) (.inl ⟨by kernel_rfl, ?y6⟩) HS1.out ?_
  case y6 =>
    rintro w' ⟨s0, s1, s2, s3, s4⟩
    go_simp
    first | done | with_reducible rfl | rfl
  try simp only [Act.put]
  refine wpAnyH_take (i := 7) (v := ?v7) rfl (by kernel_rfl) (by kernel_rfl) (by kernel_rfl) (fun _ _ _ h => h) (.inl ⟨by kernel_rfl, ?y7⟩) HS1.out ?_
  case y7 =>
    rintro w' ⟨s0, s1, s2, s3, s4⟩
    go_simp
    first | done | with_reducible rfl | rfl
  try simp only [Act.put]
  refine wpAnyH_take (i := 8) (v := ?v8) rfl (by kernel_rfl) (by kernel_rfl) (by kernel_rfl) (fun _ _ _ h => h) (.inl ⟨by kernel_rfl, ?y8⟩) HS1.out ?_
  case y8 =>
    rintro w' ⟨s0, s1, s2, s3, s4⟩
    go_simp
    first | done | with_reducible rfl | rfl
  try simp only [Act.put]
  refine wpAnyH_take (i := 9) (v := ?v9) rfl (by kernel_rfl) (by kernel_rfl) (by kernel_rfl) (fun _ _ _ h => h) (.inl ⟨by kernel_rfl, ?y9⟩) HS1.out ?_
  case y9 =>
    rintro w' ⟨s0, s1, s2, s3, s4⟩
    go_simp
    first | done | with_reducible rfl | rfl
  try simp only [Act.put]
  refine wpAnyH_take (i := 10) (v := ?v10) rfl (by kernel_rfl) (by kernel_rfl) (by kernel_rfl) (fun _ _ _ h => h) (.inl ⟨by kernel_rfl, ?y10⟩) HS1.out ?_
  case y10 =>
    rintro w' ⟨s0, s1, s2, s3, s4⟩
    go_simp
    first | done | with_reducible rfl | rfl
  try simp only [Act.put]
  refine wpAnyH_take (i := 11) (v := ?v11) rfl (by kernel_rfl) (by kernel_rfl) (by kernel_rfl) (fun _ _ _ h => h) (.inl ⟨by kernel_rfl, ?y11⟩) HS1.out ?_
  case y11 =>
    rintro w' ⟨s0, s1, s2, s3, s4⟩
    go_simp
    first | done | with_reducible rfl | rfl
  try simp only [Act.put]
  refine wpAnyH_take (i := 12) (v := ?v12) rfl (by kernel_rfl) (by kernel_rfl) (by kernel_rfl) (fun _ _ _ h => h) (.inl ⟨by kernel_rfl, ?y12⟩) HS1.out ?_
  case y12 =>
    rintro w' ⟨s0, s1, s2, s3, s4⟩
    go_simp
    first | done | with_reducible rfl | rfl
  try simp only [Act.put]
  refine wpAnyH_take (i := 13) (v := ?v13) rfl (by kernel_rfl) (by kernel_rfl) (by kernel_rfl) (fun _ _ _ h => h) (.inl ⟨by kernel_rfl, ?y13⟩) HS1.out ?_
  case y13 =>
    rintro w' ⟨s0, s1, s2, s3, s4⟩
    go_simp
    first | done | with_reducible rfl | rfl
  try simp only [Act.put]
  refine wpAnyH_take (i := 14) (v := ?v14) rfl (by kernel_rfl) (by kernel_rfl) (by kernel_rfl) (fun _ _ _ h => h) (.inl ⟨by kernel_rfl, ?y14⟩) HS1.out ?_
  case y14 =>
    rintro w' ⟨s0, s1, s2, s3, s4⟩
    go_simp
    first | done | with_reducible rfl | rfl
  try simp only [Act.put]
  refine wpAnyH_take (i := 15) (v := ?v15) rfl (by kernel_rfl) (by kernel_rfl) (by kernel_rfl) (fun _ _ _ h => h) (.inl ⟨by kernel_rfl, ?y15⟩) HS1.out ?_
  case y15 =>
    rintro w' ⟨s0, s1, s2, s3, s4⟩
    go_simp
    first | done | with_reducible rfl | rfl
  try simp only [Act.put]
  refine wpAnyH_take (i := 16) (v := ?v16) rfl (by kernel_rfl) (by kernel_rfl) (by kernel_rfl) (fun _ _ _ h => h) (.inl ⟨by kernel_rfl, ?y16⟩) HS1.out ?_
  case y16 =>
    rintro w' ⟨s0, s1, s2, s3, s4⟩
    go_simp
    first | done | with_reducible rfl | rfl
  try simp only [Act.put]
  refine wpAnyH_take (i := 17) (v := ?v17) rfl (by kernel_rfl) (by kernel_rfl) (by kernel_rfl) (fun _ _ _ h => h) (.inl ⟨by kernel_rfl, ?y17⟩) HS1.out ?_
  case y17 =>
    rintro w' ⟨s0, s1, s2, s3, s4⟩
    go_simp
    first | done | with_reducible rfl | rfl
  try simp only [Act.put]
  refine wpAnyH_take (i := 18) (v := ?v18) rfl (by kernel_rfl) (by kernel_rfl) (by kernel_rfl) (fun _ _ _ h => h) (.inl ⟨by kernel_rfl, ?y18⟩) HS1.out ?_
  case y18 =>
    rintro w' ⟨s0, s1, s2, s3, s4⟩
    go_simp
    first | done | with_reducible rfl | rfl
  try simp only [Act.put]
  refine wpAnyH_take (i := 19) (v := ?v19) rfl (by kernel_rfl) (by kernel_rfl) (by kernel_rfl) (fun _ _ _ h => h) (.inl ⟨by kernel_rfl, ?y19⟩) HS1.out ?_
  case y19 =>
    rintro w' ⟨s0, s1, s2, s3, s4⟩
    go_simp
    first | done | with_reducible rfl | rfl
  try simp only [Act.put]
  refine wpAnyH_take (i := 20) (v := ?v20) rfl (by kernel_rfl) (by kernel_rfl) (by kernel_rfl) (fun _ _ _ h => h) (.inl ⟨by kernel_rfl, ?y20⟩) HS1.out ?_
  case y20 =>
    rintro w' ⟨s0, s1, s2, s3, s4⟩
    go_simp
    first | done | with_reducible rfl | rfl
  try simp only [Act.put]
  refine wpAnyH_take (i := 21) (v := ?v21) rfl (by kernel_rfl) (by kernel_rfl) (by kernel_rfl) (fun _ _ _ h => h) (.inl ⟨by kernel_rfl, ?y21⟩) HS1.out ?_
  case y21 =>
    rintro w' ⟨s0, s1, s2, s3, s4⟩
    go_simp
    first | done | with_reducible rfl | rfl
  try simp only [Act.put]
  refine wpAnyH_take (i := 22) (v := ?v22) rfl (by kernel_rfl) (by kernel_rfl) (by kernel_rfl) (fun _ _ _ h => h) (.inl ⟨by kernel_rfl, ?y22⟩) HS1.out ?_
  case y22 =>
    rintro w' ⟨s0, s1, s2, s3, s4⟩
    go_simp
    first | done | with_reducible rfl | rfl
  try simp only [Act.put]
  refine wpAnyH_take (i := 23) (v := ?v23) rfl (by kernel_rfl) (by kernel_rfl) (by kernel_rfl) (fun _ _ _ h => h) (.inl ⟨by kernel_rfl, ?y23⟩) HS1.out ?_
  case y23 =>
    rintro w' ⟨s0, s1, s2, s3, s4⟩
    go_simp
    first | done | with_reducible rfl | rfl
  try simp only [Act.put]
  refine wpAnyH_take (i := 24) (v := ?v24) rfl (by kernel_rfl) (by kernel_rfl) (by kernel_rfl) (fun _ _ _ h => h) (.inl ⟨by kernel_rfl, ?y24⟩) HS1.out ?_
  case y24 =>
    rintro w' ⟨s0, s1, s2, s3, s4⟩
    go_simp
    first | done | with_reducible rfl | rfl
  try simp only [Act.put]
  refine wpAnyH_take (i := 25) (v := ?v25) rfl (by kernel_rfl) (by kernel_rfl) (by kernel_rfl) (fun _ _ _ h => h) (.inl ⟨by kernel_rfl, ?y25⟩) HS1.out ?_
  case y25 =>
    rintro w' ⟨s0, s1, s2, s3, s4⟩
    go_simp
    first | done | with_reducible rfl | rfl
  try simp only [Act.put]
  refine wpAnyH_take (i := 26) (v := ?v26) rfl (by kernel_rfl) (by kernel_rfl) (by kernel_rfl) (fun _ _ _ h => h) (.inl ⟨by kernel_rfl, ?y26⟩) HS1.out ?_
  case y26 =>
    rintro w' ⟨s0, s1, s2, s3, s4⟩
    go_simp
    first | done | with_reducible rfl | rfl
  try simp only [Act.put]
  refine wpAnyH_take (i := 27) (v := ?v27) rfl (by kernel_rfl) (by kernel_rfl) (by kernel_rfl) (fun _ _ _ h => h) (.inl ⟨by kernel_rfl, ?y27⟩) HS1.out ?_
  case y27 =>
    rintro w' ⟨s0, s1, s2, s3, s4⟩
    go_simp
    first | done | with_reducible rfl | rfl
  try simp only [Act.put]
  refine wpAnyH_take (i := 28) (v := ?v28) rfl (by kernel_rfl) (by kernel_rfl) (by kernel_rfl) (fun _ _ _ h => h) (.inl ⟨by kernel_rfl, ?y28⟩) HS1.out ?_
  case y28 =>
    rintro w' ⟨s0, s1, s2, s3, s4⟩
    go_simp
    first | done | with_reducible rfl | rfl
  try simp only [Act.put]
  refine wpAnyH_take (i := 29) (v := ?v29) rfl (by kernel_rfl) (by kernel_rfl) (by kernel_rfl) (fun _ _ _ h => h) (.inl ⟨by kernel_rfl, ?y29⟩) HS1.out ?_
  case y29 =>
    rintro w' ⟨s0, s1, s2, s3, s4⟩
    go_simp
    first | done | with_reducible rfl | rfl
  try simp only [Act.put]
  refine held_lits (i := 30) (j := 31) (.int .u64 1) (.int .u64 1) 24 24 (by kernel_rfl) (by kernel_rfl) (by kernel_rfl) rfl rfl (by kernel_rfl) (by kernel_rfl) (fun _ => by kernel_rfl) (fun _ => by kernel_rfl) (by kernel_rfl) (fun _ _ => by kernel_rfl) ?_ ?_ (fun w' hb => HS1.out.below hb) ?_
  case refine_1 =>
    intro K a w h
    unfold Oper.wp
    go_simp
    exact h
  case refine_2 =>
    intro K a w h
    unfold Oper.wp
    go_simp
    exact h
  intro zp zq v1 rv0 ru0 hb
  have HS2 := Lib.hid (HS1.out.below hb)
  have BB2 := Lib.hid (below_go BB1.out hb)
  have RZ2 := Lib.hid (RZ1.out.below hb)
  clear HS1 BB1 RZ1 hb
  replace rv0 : Row v1 _ (uv [1]) := rv0
  replace ru0 : Row v1 _ (uv [1]) := ru0
  try simp only [Act.put]
  refine held_one (i := 32) (by kernel_rfl) rfl (by kernel_rfl) ?_
  unfold Oper.wp
  go_simp
  refine (crow_any _ _ 1 1 1 1 [1] [1] (-1) _ rfl rfl (by decide) (by decide) (by decide) (by decide) (i64_small (by decide)) rv0 ru0 (wd_all (by decide)) (wd_all (by decide))).mono ?_
  intro e v2 hv
  rw [show wdsVc3 (-1) = 0 by decide] at hv
  obtain ⟨A_n, c_n, x_n, rfl, h1, _, _, h2, h3, r_n, hb⟩ := madeV_words hv
  clear hv h1 h2 h3 r_n rv0 ru0
  have HS3 := Lib.hid (HS2.out.below hb)
  have BB3 := Lib.hid (below_go BB2.out hb)
  have RZ3 := Lib.hid (RZ2.out.below hb)
  clear HS2 BB2 RZ2 hb
  refine ⟨HS3.out, ?_⟩
  try simp only [Act.put]
  refine wpAnyH_take (i := 33) (v := ?v30) rfl (by kernel_rfl) (by kernel_rfl) (by kernel_rfl) (fun _ _ _ h => h) (.inl ⟨by kernel_rfl, ?y30⟩) HS3.out ?_
  case y30 =>
    rintro w' ⟨s0, s1, s2, s3, s4⟩
    go_simp
    first | done | with_reducible rfl | rfl
  try simp only [Act.put]
  refine wpAnyH_take (i := 34) (v := ?v31) rfl (by kernel_rfl) (by kernel_rfl) (by kernel_rfl) (fun _ _ _ h => h) (.inl ⟨by kernel_rfl, ?y31⟩) HS3.out ?_
  case y31 =>
    rintro w' ⟨s0, s1, s2, s3, s4⟩
    go_simp
    first | done | with_reducible rfl | rfl
  try simp only [Act.put]
  refine wpAnyH_take (i := 35) (v := ?v32) rfl (by kernel_rfl) (by kernel_rfl) (by kernel_rfl) (fun _ _ _ h => h) (.inl ⟨by kernel_rfl, ?y32⟩) HS3.out ?_
  case y32 =>
    rintro w' ⟨s0, s1, s2, s3, s4⟩
    go_simp
    first | done | with_reducible rfl | rfl
  try simp only [Act.put]
  refine wpAnyH_take (i := 36) (v := ?v33) rfl (by kernel_rfl) (by kernel_rfl) (by kernel_rfl) (fun _ _ _ h => h) (.inl ⟨by kernel_rfl, ?y33⟩) HS3.out ?_
  case y33 =>
    rintro w' ⟨s0, s1, s2, s3, s4⟩
    go_simp
    first | done | with_reducible rfl | rfl
  try simp only [Act.put]
  refine wpAnyH_take (i := 37) (v := ?v34) rfl (by kernel_rfl) (by kernel_rfl) (by kernel_rfl) (fun _ _ _ h => h) (.inl ⟨by kernel_rfl, ?y34⟩) HS3.out ?_
  case y34 =>
    rintro w' ⟨s0, s1, s2, s3, s4⟩
    go_simp
    first | done | with_reducible rfl | rfl
  try simp only [Act.put]
  refine wpAnyH_take (i := 38) (v := ?v35) rfl (by kernel_rfl) (by kernel_rfl) (by kernel_rfl) (fun _ _ _ h => h) (.inl ⟨by kernel_rfl, ?y35⟩) HS3.out ?_
  case y35 =>
    rintro w' ⟨s0, s1, s2, s3, s4⟩
    go_simp
    first | done | with_reducible rfl | rfl
  try simp only [Act.put]
  refine wpAnyH_take (i := 39) (v := ?v36) rfl (by kernel_rfl) (by kernel_rfl) (by kernel_rfl) (fun _ _ _ h => h) (.inl ⟨by kernel_rfl, ?y36⟩) HS3.out ?_
  case y36 =>
    rintro w' ⟨s0, s1, s2, s3, s4⟩
    go_simp
    first | done | with_reducible rfl | rfl
  try simp only [Act.put]
  refine wpAnyH_take (i := 40) (v := ?v37) rfl (by kernel_rfl) (by kernel_rfl) (by kernel_rfl) (fun _ _ _ h => h) (.inl ⟨by kernel_rfl, ?y37⟩) HS3.out ?_
  case y37 =>
    rintro w' ⟨s0, s1, s2, s3, s4⟩
    go_simp
    first | done | with_reducible rfl | rfl
  try simp only [Act.put]
  refine wpAnyH_take (i := 41) (v := ?v38) rfl (by kernel_rfl) (by kernel_rfl) (by kernel_rfl) (fun _ _ _ h => h) (.inl ⟨by kernel_rfl, ?y38⟩) HS3.out ?_
  case y38 =>
    rintro w' ⟨s0, s1, s2, s3, s4⟩
    go_simp
    first | done | with_reducible rfl | rfl
  try simp only [Act.put]
  refine wpAnyH_take (i := 42) (v := ?v39) rfl (by kernel_rfl) (by kernel_rfl) (by kernel_rfl) (fun _ _ _ h => h) (.inl ⟨by kernel_rfl, ?y39⟩) HS3.out ?_
  case y39 =>
    rintro w' ⟨s0, s1, s2, s3, s4⟩
    go_simp
    first | done | with_reducible rfl | rfl
  try simp only [Act.put]
  refine wpAnyH_take (i := 43) (v := ?v40) rfl (by kernel_rfl) (by kernel_rfl) (by kernel_rfl) (fun _ _ _ h => h) (.inl ⟨by kernel_rfl, ?y40⟩) HS3.out ?_
  case y40 =>
    rintro w' ⟨s0, s1, s2, s3, s4⟩
    go_simp
    first | done | with_reducible rfl | rfl
  try simp only [Act.put]
  refine wpAnyH_take (i := 44) (v := ?v41) rfl (by kernel_rfl) (by kernel_rfl) (by kernel_rfl) (fun _ _ _ h => h) (.inl ⟨by kernel_rfl, ?y41⟩) HS3.out ?_
  case y41 =>
    rintro w' ⟨s0, s1, s2, s3, s4⟩
    go_simp
    first | done | with_reducible rfl | rfl
  try simp only [Act.put]
  refine wpAnyH_take (i := 45) (v := ?v42) rfl (by kernel_rfl) (by kernel_rfl) (by kernel_rfl) (fun _ _ _ h => h) (.inl ⟨by kernel_rfl, ?y42⟩) HS3.out ?_
  case y42 =>
    rintro w' ⟨s0, s1, s2, s3, s4⟩
    go_simp
    first | done | with_reducible rfl | rfl
  try simp only [Act.put]
  refine wpAnyH_take (i := 46) (v := ?v43) rfl (by kernel_rfl) (by kernel_rfl) (by kernel_rfl) (fun _ _ _ h => h) (.inl ⟨by kernel_rfl, ?y43⟩) HS3.out ?_
  case y43 =>
    rintro w' ⟨s0, s1, s2, s3, s4⟩
    go_simp
    first | done | with_reducible rfl | rfl
  try simp only [Act.put]
  refine wpAnyH_take (i := 47) (v := ?v44) rfl (by kernel_rfl) (by kernel_rfl) (by kernel_rfl) (fun _ _ _ h => h) (.inl ⟨by kernel_rfl, ?y44⟩) HS3.out ?_
  case y44 =>
    rintro w' ⟨s0, s1, s2, s3, s4⟩
    go_simp
    first | done | with_reducible rfl | rfl
  try simp only [Act.put]
  refine wpAnyH_take (i := 48) (v := ?v45) rfl (by kernel_rfl) (by kernel_rfl) (by kernel_rfl) (fun _ _ _ h => h) (.inl ⟨by kernel_rfl, ?y45⟩) HS3.out ?_
  case y45 =>
    rintro w' ⟨s0, s1, s2, s3, s4⟩
    go_simp
    first | done | with_reducible rfl | rfl
  try simp only [Act.put]
  refine wpAnyH_take (i := 49) (v := ?v46) rfl (by kernel_rfl) (by kernel_rfl) (by kernel_rfl) (fun _ _ _ h => h) (.inl ⟨by kernel_rfl, ?y46⟩) HS3.out ?_
  case y46 =>
    rintro w' ⟨s0, s1, s2, s3, s4⟩
    go_simp
    first | done | with_reducible rfl | rfl
  try simp only [Act.put]
  refine wpAnyH_take (i := 50) (v := ?v47) rfl (by kernel_rfl) (by kernel_rfl) (by kernel_rfl) (fun _ _ _ h => h) (.inl ⟨by kernel_rfl, ?y47⟩) HS3.out ?_
  case y47 =>
    rintro w' ⟨s0, s1, s2, s3, s4⟩
    go_simp
    first | done | with_reducible rfl | rfl
  try simp only [Act.put]
  refine wpAnyH_take (i := 51) (v := ?v48) rfl (by kernel_rfl) (by kernel_rfl) (by kernel_rfl) (fun _ _ _ h => h) (.inl ⟨by kernel_rfl, ?y48⟩) HS3.out ?_
  case y48 =>
    rintro w' ⟨s0, s1, s2, s3, s4⟩
    go_simp
    first | done | with_reducible rfl | rfl
  try simp only [Act.put]
  refine wpAnyH_take (i := 52) (v := ?v49) rfl (by kernel_rfl) (by kernel_rfl) (by kernel_rfl) (fun _ _ _ h => h) (.inl ⟨by kernel_rfl, ?y49⟩) HS3.out ?_
  case y49 =>
    rintro w' ⟨s0, s1, s2, s3, s4⟩
    go_simp
    first | done | with_reducible rfl | rfl
  try simp only [Act.put]
  refine wpAnyH_take (i := 53) (v := ?v50) rfl (by kernel_rfl) (by kernel_rfl) (by kernel_rfl) (fun _ _ _ h => h) (.inl ⟨by kernel_rfl, ?y50⟩) HS3.out ?_
  case y50 =>
    rintro w' ⟨s0, s1, s2, s3, s4⟩
    go_simp
    first | done | with_reducible rfl | rfl
  try simp only [Act.put]
  refine held_one (i := 54) (by kernel_rfl) rfl (by kernel_rfl) ?_
  unfold Oper.wp
  go_simp
  have hb := below_a1 (v2) (.cells #[.int .i64 1] 3)
  have rb := row_lit0 (v2) [.int .i64 1] 3
  have HS4 := Lib.hid (HS3.out.below hb)
  have BB4 := Lib.hid (below_go BB3.out hb)
  have RZ4 := Lib.hid (RZ3.out.below hb)
  clear HS3 BB3 RZ3 hb
  generalize hgs : (v2).heap.size = z3 at *
  generalize (v2).alloc (.cells #[.int .i64 1] 3) = v3 at *
  refine ⟨HS4.out, ?_⟩
  try simp only [Act.put]
  refine held_one (i := 55) (by kernel_rfl) rfl (by kernel_rfl) ?_
  unfold Oper.wp
  go_simp
  refine (clen_any _ _ 0 1 _ _ [] [1] _ rfl rfl (by decide) (by decide) (Row.nil _ _) rb (by decide) (by decide)).mono ?_
  rintro e v4 ⟨rfl, hb⟩
  rw [show lcs [] [1] = 0 by decide +kernel]
  clear rb hgs
  have HS5 := Lib.hid (HS4.out.below hb)
  have BB5 := Lib.hid (below_go BB4.out hb)
  have RZ5 := Lib.hid (RZ4.out.below hb)
  clear HS4 BB4 RZ4 hb
  refine ⟨HS5.out, ?_⟩
  try simp only [Act.put]
  refine wpAnyH_take (i := 56) (v := ?v51) rfl (by kernel_rfl) (by kernel_rfl) (by kernel_rfl) (fun _ _ _ h => h) (.inl ⟨by kernel_rfl, ?y51⟩) HS5.out ?_
  case y51 =>
    rintro w' ⟨s0, s1, s2, s3, s4⟩
    go_simp
    first | done | with_reducible rfl | rfl
  try simp only [Act.put]
  refine wpAnyH_take (i := 57) (v := ?v52) rfl (by kernel_rfl) (by kernel_rfl) (by kernel_rfl) (fun _ _ _ h => h) (.inl ⟨by kernel_rfl, ?y52⟩) HS5.out ?_
  case y52 =>
    rintro w' ⟨s0, s1, s2, s3, s4⟩
    go_simp
    first | done | with_reducible rfl | rfl
  try simp only [Act.put]
  refine wpAnyH_take (i := 58) (v := ?v53) rfl (by kernel_rfl) (by kernel_rfl) (by kernel_rfl) (fun _ _ _ h => h) (.inl ⟨by kernel_rfl, ?y53⟩) HS5.out ?_
  case y53 =>
    rintro w' ⟨s0, s1, s2, s3, s4⟩
    go_simp
    first | done | with_reducible rfl | rfl
  try simp only [Act.put]
  refine wpAnyH_take (i := 59) (v := ?v54) rfl (by kernel_rfl) (by kernel_rfl) (by kernel_rfl) (fun _ _ _ h => h) (.inl ⟨by kernel_rfl, ?y54⟩) HS5.out ?_
  case y54 =>
    rintro w' ⟨s0, s1, s2, s3, s4⟩
    go_simp
    first | done | with_reducible rfl | rfl
  try simp only [Act.put]
  refine wpAnyH_take (i := 60) (v := ?v55) rfl (by kernel_rfl) (by kernel_rfl) (by kernel_rfl) (fun _ _ _ h => h) (.inl ⟨by kernel_rfl, ?y55⟩) HS5.out ?_
  case y55 =>
    rintro w' ⟨s0, s1, s2, s3, s4⟩
    go_simp
    first | done | with_reducible rfl | rfl
  try simp only [Act.put]
  refine held_one (i := 61) (by kernel_rfl) rfl (by kernel_rfl) ?_
  unfold Oper.wp
  go_simp
  refine (clen_any _ _ 70 70 _ _ (List.replicate 70 0) (List.replicate 70 0) _ rfl rfl (by decide) (by decide) RZ5.out RZ5.out (by decide) (by decide)).mono ?_
  rintro e v5 ⟨rfl, hb⟩
  rw [show lcs (List.replicate 70 0) (List.replicate 70 0) = 70 by decide +kernel]
  have HS6 := Lib.hid (HS5.out.below hb)
  have BB6 := Lib.hid (below_go BB5.out hb)
  have RZ6 := Lib.hid (RZ5.out.below hb)
  clear HS5 BB5 RZ5 hb
  refine ⟨HS6.out, ?_⟩
  try simp only [Act.put]
  refine wpAnyH_take (i := 62) (v := ?v56) rfl (by kernel_rfl) (by kernel_rfl) (by kernel_rfl) (fun _ _ _ h => h) (.inl ⟨by kernel_rfl, ?y56⟩) HS6.out ?_
  case y56 =>
    rintro w' ⟨s0, s1, s2, s3, s4⟩
    go_simp
    first | done | with_reducible rfl | rfl
  try simp only [Act.put]
  refine wpAnyH_take (i := 63) (v := ?v57) rfl (by kernel_rfl) (by kernel_rfl) (by kernel_rfl) (fun _ _ _ h => h) (.inl ⟨by kernel_rfl, ?y57⟩) HS6.out ?_
  case y57 =>
    rintro w' ⟨s0, s1, s2, s3, s4⟩
    go_simp
    first | done | with_reducible rfl | rfl
  try simp only [Act.put]
  refine wpAnyH_take (i := 64) (v := ?v58) rfl (by kernel_rfl) (by kernel_rfl) (by kernel_rfl) (fun _ _ _ h => h) (.inl ⟨by kernel_rfl, ?y58⟩) HS6.out ?_
  case y58 =>
    rintro w' ⟨s0, s1, s2, s3, s4⟩
    go_simp
    first | done | with_reducible rfl | rfl
  try simp only [Act.put]
  refine wpAnyH_take (i := 65) (v := ?v59) rfl (by kernel_rfl) (by kernel_rfl) (by kernel_rfl) (fun _ _ _ h => h) (.inl ⟨by kernel_rfl, ?y59⟩) HS6.out ?_
  case y59 =>
    rintro w' ⟨s0, s1, s2, s3, s4⟩
    go_simp
    first | done | with_reducible rfl | rfl
  try simp only [Act.put]
  refine wpAnyH_take (i := 66) (v := ?v60) rfl (by kernel_rfl) (by kernel_rfl) (by kernel_rfl) (fun _ _ _ h => h) (.inl ⟨by kernel_rfl, ?y60⟩) HS6.out ?_
  case y60 =>
    rintro w' ⟨s0, s1, s2, s3, s4⟩
    go_simp
    first | done | with_reducible rfl | rfl
  try simp only [Act.put]
  obtain ⟨s5, r_t⟩ := slice_to _ 70 70 65 (List.replicate 70 0) _ RZ6.out (by decide)
  refine wpAnyH_take (i := 67) (v := ?v61) rfl (by kernel_rfl) (by kernel_rfl) (by kernel_rfl) (fun _ _ _ h => h) (.inl ⟨by kernel_rfl, ?y61⟩) HS6.out ?_
  case y61 =>
    rintro w' ⟨s0, s1, s2, s3, s4⟩
    go_simp
    first | done | with_reducible rfl | rfl
  try simp only [Act.put]
  refine held_one (i := 68) (by kernel_rfl) rfl (by kernel_rfl) ?_
  unfold Oper.wp
  go_simp
  refine (clen_any _ _ 70 65 _ _ (List.replicate 70 0) ((List.replicate 70 0).take 65) _ rfl rfl (by decide) (by decide) RZ6.out r_t (by decide) (by decide)).mono ?_
  rintro e v6 ⟨rfl, hb⟩
  rw [show lcs (List.replicate 70 0) ((List.replicate 70 0).take 65) = 65 by decide +kernel]
  clear s5 r_t
  have HS7 := Lib.hid (HS6.out.below hb)
  have BB7 := Lib.hid (below_go BB6.out hb)
  have RZ7 := Lib.hid (RZ6.out.below hb)
  clear HS6 BB6 RZ6 hb
  refine ⟨HS7.out, ?_⟩
  try simp only [Act.put]
  refine wpAnyH_take (i := 69) (v := ?v62) rfl (by kernel_rfl) (by kernel_rfl) (by kernel_rfl) (fun _ _ _ h => h) (.inl ⟨by kernel_rfl, ?y62⟩) HS7.out ?_
  case y62 =>
    rintro w' ⟨s0, s1, s2, s3, s4⟩
    go_simp
    first | done | with_reducible rfl | rfl
  try simp only [Act.put]
  refine wpAnyH_take (i := 70) (v := ?v63) rfl (by kernel_rfl) (by kernel_rfl) (by kernel_rfl) (fun _ _ _ h => h) (.inl ⟨by kernel_rfl, ?y63⟩) HS7.out ?_
  case y63 =>
    rintro w' ⟨s0, s1, s2, s3, s4⟩
    go_simp
    first | done | with_reducible rfl | rfl
  try simp only [Act.put]
  refine wpAnyH_take (i := 71) (v := ?v64) rfl (by kernel_rfl) (by kernel_rfl) (by kernel_rfl) (fun _ _ _ h => h) (.inl ⟨by kernel_rfl, ?y64⟩) HS7.out ?_
  case y64 =>
    rintro w' ⟨s0, s1, s2, s3, s4⟩
    go_simp
    first | done | with_reducible rfl | rfl
  try simp only [Act.put]
  refine held_one (i := 72) (by kernel_rfl) rfl (by kernel_rfl) ?_
  unfold Oper.wp
  go_simp
  refine (csteps_any (-1) (5) _).mono ?_
  rintro e v7 ⟨rfl, e0⟩
  have hb := below_same e0
  rw [show stepsW (-1) (5) = 0 by decide]
  have HS8 := Lib.hid (HS7.out.below hb)
  have BB8 := Lib.hid (below_go BB7.out hb)
  have RZ8 := Lib.hid (RZ7.out.below hb)
  clear HS7 BB7 RZ7 hb
  refine ⟨HS8.out, ?_⟩
  try simp only [Act.put]
  refine wpAnyH_take (i := 73) (v := ?v65) rfl (by kernel_rfl) (by kernel_rfl) (by kernel_rfl) (fun _ _ _ h => h) (.inl ⟨by kernel_rfl, ?y65⟩) HS8.out ?_
  case y65 =>
    rintro w' ⟨s0, s1, s2, s3, s4⟩
    go_simp
    first | done | with_reducible rfl | rfl
  try simp only [Act.put]
  refine wpAnyH_take (i := 74) (v := ?v66) rfl (by kernel_rfl) (by kernel_rfl) (by kernel_rfl) (fun _ _ _ h => h) (.inl ⟨by kernel_rfl, ?y66⟩) HS8.out ?_
  case y66 =>
    rintro w' ⟨s0, s1, s2, s3, s4⟩
    go_simp
    first | done | with_reducible rfl | rfl
  try simp only [Act.put]
  refine wpAnyH_take (i := 75) (v := ?v67) rfl (by kernel_rfl) (by kernel_rfl) (by kernel_rfl) (fun _ _ _ h => h) (.inl ⟨by kernel_rfl, ?y67⟩) HS8.out ?_
  case y67 =>
    rintro w' ⟨s0, s1, s2, s3, s4⟩
    go_simp
    first | done | with_reducible rfl | rfl
  try simp only [Act.put]
  refine held_one (i := 76) (by kernel_rfl) rfl (by kernel_rfl) ?_
  unfold Oper.wp
  go_simp
  refine (csteps_any (5) (1099511627776) _).mono ?_
  rintro e v8 ⟨rfl, e0⟩
  have hb := below_same e0
  rw [show stepsW (5) (1099511627776) = 0 by decide]
  have HS9 := Lib.hid (HS8.out.below hb)
  have BB9 := Lib.hid (below_go BB8.out hb)
  have RZ9 := Lib.hid (RZ8.out.below hb)
  clear HS8 BB8 RZ8 hb
  refine ⟨HS9.out, ?_⟩
  try simp only [Act.put]
  refine wpAnyH_take (i := 77) (v := ?v68) rfl (by kernel_rfl) (by kernel_rfl) (by kernel_rfl) (fun _ _ _ h => h) (.inl ⟨by kernel_rfl, ?y68⟩) HS9.out ?_
  case y68 =>
    rintro w' ⟨s0, s1, s2, s3, s4⟩
    go_simp
    first | done | with_reducible rfl | rfl
  try simp only [Act.put]
  refine wpAnyH_take (i := 78) (v := ?v69) rfl (by kernel_rfl) (by kernel_rfl) (by kernel_rfl) (fun _ _ _ h => h) (.inl ⟨by kernel_rfl, ?y69⟩) HS9.out ?_
  case y69 =>
    rintro w' ⟨s0, s1, s2, s3, s4⟩
    go_simp
    first | done | with_reducible rfl | rfl
  try simp only [Act.put]
  refine wpAnyH_take (i := 79) (v := ?v70) rfl (by kernel_rfl) (by kernel_rfl) (by kernel_rfl) (fun _ _ _ h => h) (.inl ⟨by kernel_rfl, ?y70⟩) HS9.out ?_
  case y70 =>
    rintro w' ⟨s0, s1, s2, s3, s4⟩
    go_simp
    first | done | with_reducible rfl | rfl
  try simp only [Act.put]
  refine held_one (i := 80) (by kernel_rfl) rfl (by kernel_rfl) ?_
  unfold Oper.wp
  go_simp
  refine (csteps_any (7) (0) _).mono ?_
  rintro e v9 ⟨rfl, e0⟩
  have hb := below_same e0
  rw [show stepsW (7) (0) = 0 by decide]
  have HS10 := Lib.hid (HS9.out.below hb)
  have BB10 := Lib.hid (below_go BB9.out hb)
  have RZ10 := Lib.hid (RZ9.out.below hb)
  clear HS9 BB9 RZ9 hb
  refine ⟨HS10.out, ?_⟩
  try simp only [Act.put]
  refine wpAnyH_take (i := 81) (v := ?v71) rfl (by kernel_rfl) (by kernel_rfl) (by kernel_rfl) (fun _ _ _ h => h) (.inl ⟨by kernel_rfl, ?y71⟩) HS10.out ?_
  case y71 =>
    rintro w' ⟨s0, s1, s2, s3, s4⟩
    go_simp
    first | done | with_reducible rfl | rfl
  try simp only [Act.put]
  refine wpAnyH_take (i := 82) (v := ?v72) rfl (by kernel_rfl) (by kernel_rfl) (by kernel_rfl) (fun _ _ _ h => h) (.inl ⟨by kernel_rfl, ?y72⟩) HS10.out ?_
  case y72 =>
    rintro w' ⟨s0, s1, s2, s3, s4⟩
    go_simp
    first | done | with_reducible rfl | rfl
  try simp only [Act.put]
  refine wpAnyH_take (i := 83) (v := ?v73) rfl (by kernel_rfl) (by kernel_rfl) (by kernel_rfl) (fun _ _ _ h => h) (.inl ⟨by kernel_rfl, ?y73⟩) HS10.out ?_
  case y73 =>
    rintro w' ⟨s0, s1, s2, s3, s4⟩
    go_simp
    first | done | with_reducible rfl | rfl
  try simp only [Act.put]
  refine held_done (by kernel_rfl) ?_
  go_simp
  go_wp2_with fail
  go_ret
  exact Yes.of BB10.out

/-! ### The row's step -/
theorem own : ownKnob Try.prog.godebug = none := by kernel_rfl
theorem laidOut : laidOutB Try.prog = true := by kernel_rfl

set_option maxRecDepth 100000 in
theorem contract (H : Type) (enc : TypeId × Value → H) (W : World) (base : Nat) (args : Array Value) (ds gs : List (DataW H)) (before : List MemPlace)
    (hval : ∀ (j : Nat) t v, Try.f3.params[j]? = some t → args[j]? = some v → Value.okWide Try.prog W .any base t v)
    (hW : DataW.Whole enc Try.prog Try.f3.params.toList Rows.crochKnownSpec.vars false W args.toList ds gs before) :
    Calls Try.prog 3 args W fun e W' => ∃ v, e = .returned v ∧ Rows.crochKnownSpec.post enc Try.prog Try.f3 false true false false W args v W' := by
  have hW' := hW
  obtain ⟨p, q, hA0, hV, rfl, hfz, hnd⟩ := hW
  have hA : DataW.TrodAll enc Try.prog W 0 (fun _ => true) true Try.f3.params.toList args.toList ds p := hA0
  rw [Try.params3] at hA
  obtain ⟨rfl, rfl, rfl⟩ := trodAll_none hA
  obtain ⟨rfl, rfl⟩ := trodVars_none hV
  clear hA0
  refine (crochKnown_walk  W ).mono fun e W' ⟨he, bel⟩ => ?_
  subst he
  exact ⟨_, rfl, _, _, _, [], _, [], hW', trodAll_mk1 (shut_bool Try.underlying4 _), trodAll_mk0, rfl, bel.frame _, fun h => by cases h⟩

set_option maxRecDepth 100000 in
theorem lifted (os : Os) (started : os.Started) (H : Type) (enc : TypeId × Value → H) :
    ReturnsInHanded {} Try.checked os 3 .any (Rows.crochKnownSpec.pre6 enc Try.prog Try.f3 Rows.crochKnownRow.domain false) (Rows.crochKnownSpec.post enc Try.prog Try.f3 false true false false) := by
  refine returnsInHanded_of_change (C := Try.checked) own started (by kernel_rfl) Try.func3
    (ChangeSpec.witness6 (enc := enc) (C := Try.checked) false ⟨#[], #[], []⟩ 8 (by kernel_rfl) (by kernel_rfl) (by kernel_rfl) (by kernel_rfl)) ?_
  intro W base args ds gs before hval hW _ _
  exact contract H enc W base args ds gs before hval hW

/-- The statement. -/
theorem proved : Rows.CrochKnownSaid :=
  OpenClaim.holds_of_wide 3 Try.f3 rfl rfl rfl rfl rfl rfl rfl ⟨rfl, rfl, rfl, rfl, rfl⟩ rfl rfl rfl rfl rfl (by kernel_rfl) Try.func3 (by kernel_rfl)
    (of_decide_eq_true (by kernel_rfl)) (by unfold Func.isWrapper; first | (rw [if_pos (by decide +kernel)]; kernel_rfl) | (rw [if_neg (by decide +kernel)]; exact ⟨rfl, rfl⟩))
    (fun os started H enc _ => lifted os started H enc)

end Go.Proofs.Ytokgabijjgndgaa.crochKnownP
