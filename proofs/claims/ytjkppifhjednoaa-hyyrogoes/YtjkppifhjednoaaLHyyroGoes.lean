/-
  Proved: for every input tattinglaw20.HyyroGoes returns true, and its arguments read afterwards as before.
-/
import Derived.Test.YtjkppifhjednoaaM33
import Derived.Test.YtjkppifhjednoaaM34
import Derived.Test.YtjkppifhjednoaaM5
import Derived.Test.YtjkppifhjednoaaM17
import Derived.Test.YtjkppifhjednoaaM18
namespace Go.Proofs.Ytjkppifhjednoaa.hyyroGoesP
open Go.ChangeShapes Go.WideShapes Go.ChangeAt Go.RowKit
open Go.ChangeMaps (open_string shut_string)

/-- The head of a round. -/
def GoRel (na : Nat) (w : World) (i : Value) (wr : World) : Prop := ∃ q : Nat, q ≤ na ∧ i = .int .i64 (q : Int) ∧ Below w.heap.size w wr
/-- What a round reads. -/
def GoS (gr orr gx ox q : Nat) (vz vp : Value) (c : Int) (w : World) : Prop := w.cell? ⟨gr, orr + (q + 1), none⟩ = some vz ∧ w.cell? ⟨gr, orr + q, none⟩ = some vp ∧ w.cell? ⟨gx, ox + q, none⟩ = some (.int .i64 c)
theorem cell_below {w w' : World} {p : Addr} {v : Value} (h : w.cell? p = some v) (hb : Below w.heap.size w w') : w'.cell? p = some v := (hb.cell (World.block_lt_of_cell? _ _ h)).trans h
theorem GoS.below {gr orr gx ox q : Nat} {vz vp : Value} {c : Int} {w w' : World} (h : GoS gr orr gx ox q vz vp c w) (hb : Below w.heap.size w w') : GoS gr orr gx ox q vz vp c w' :=
  ⟨cell_below h.1 hb, cell_below h.2.1 hb, cell_below h.2.2 hb⟩

set_option maxRecDepth 100000 in
set_option maxHeartbeats 3200000 in
theorem hyyroGoes_walk (Aa : Option Addr) (na ca : Nat) (a : List Int) (Ab : Option Addr) (nb cb : Nat) (b : List Int) (i : Int) (w : World) (ha : ArgI w Aa na ca a) (hb : ArgI w Ab nb cb b) (hi : (Lit.int .u8 i).wf = true) :
    Calls Try.prog 8 #[.slice Aa na ca, .slice Ab nb cb, .int .u8 i] w (Yes w) := by
  obtain ⟨hna, hca, hma, r_a, hnila, hwfa⟩ := ha
  have Ha := Lib.hid hna
  have Wa := Lib.hid hwfa
  clear hna hwfa
  unfold maxLen at hma
  obtain ⟨hnb, hcb, hmb, r_b, hnilb, hwfb⟩ := hb
  have Hb := Lib.hid hnb
  have Wb := Lib.hid hwfb
  clear hnb hwfb
  unfold maxLen at hmb
  by_cases ga : na ≤ 40
  case neg =>
    go_enter Try.func8, Try.ntmps8
    go_wp2_with fail
    refine (awake20 _).mono ?_
    rintro e w1 ⟨rfl, hb1⟩
    go_wp2_with fail
    go_ret
    exact Yes.of hb1
  by_cases gb : nb ≤ 130
  case neg =>
    go_enter Try.func8, Try.ntmps8
    go_wp2_with fail
    refine (awake20 _).mono ?_
    rintro e w1 ⟨rfl, hb1⟩
    go_wp2_with fail
    go_ret
    exact Yes.of hb1
  have Bi := bounds_u8 hi
  clear hi
  go_enter Try.func8, Try.ntmps8
  go_wp2_with fail
  refine (awake20 _).mono ?_
  rintro e w1 ⟨rfl, hb⟩
  have B := below_go (Below.refl _ _) hb
  replace r_a := r_a.below B
  replace r_b := r_b.below B
  have bb := B
  clear B hb
  go_wp2_with fail
  refine (few_any _ na _ a 3 _ Ha.out (by omega) (by decide) (by decide) r_a).mono ?_
  rintro e w2 ⟨v, rfl, hv, hb⟩
  have Hx : Hid ((few 3 a).length = na) := by show _ = _; rw [few_length, Ha.out]
  have Wx := Lib.hid (few_wf 3 (by decide) (by decide) a)
  rw [Hx.out] at hv
  clear r_a
  replace r_b := r_b.below hb
  replace bb := below_go bb hb
  clear hb
  obtain ⟨V_x, c_x, rfl, hq_x, hx_x, r_x, hnil_x⟩ := own_slice hv
  clear hv
  generalize few 3 a = x at *
  go_wp2_with fail
  refine (few_any _ nb _ b 3 _ Hb.out (by omega) (by decide) (by decide) r_b).mono ?_
  rintro e w3 ⟨v, rfl, hv, hb⟩
  have Hy : Hid ((few 3 b).length = nb) := by show _ = _; rw [few_length, Hb.out]
  have Wy := Lib.hid (few_wf 3 (by decide) (by decide) b)
  rw [Hy.out] at hv
  clear r_b
  replace r_x := r_x.below hb
  replace bb := below_go bb hb
  clear hb
  obtain ⟨V_y, c_y, rfl, hq_y, hx_y, r_y, hnil_y⟩ := own_slice hv
  clear hv
  generalize few 3 b = y at *
  obtain ⟨ip, hip, p1, p2⟩ := place_u8 i na Bi.1
  have wi : IntKind.i64.wrap i = i := IntWalk.i64_in _ (by omega)
  have hmx : Try.prog.follows .mixedOrders = true := by kernel_rfl
  have ni : ((na : Int) + 1 == 0) = false := by simp; omega
  have ni2 : (na : Int) + 1 ≠ 0 := by omega
  have hWl := wds_le (nb : Int)
  have hwm := wid_nat (n := nb) (by omega)
  have HNW : Hid (nb ≤ 64 * wdsVc3 (nb : Int)) := by have := wds_wid (nb : Int); rw [hwm] at this; exact this
  have HWM := Lib.hid hwm
  obtain ⟨W, hW⟩ : ∃ W, wdsVc3 (nb : Int) = W := ⟨_, rfl⟩
  have HW := Lib.hid hW
  rw [hW] at hWl HNW
  clear hwm hW
  go_wp2_with fail
  obtain ⟨s1, r_t⟩ := slice_to V_x na c_x ip x w3 r_x (by omega)
  have HT : Hid ((x.take ip).length = ip) := by show _ = _; rw [List.length_take, Hx.out]; omega
  have WT : Hid (∀ v ∈ x.take ip, (Lit.int .i64 v).wf = true) := fun v hv => Wx.out v (List.mem_of_mem_take hv)
  clear p1 p2 wi ni ni2
  refine wp_region_held (S := AnyW) hmx ?_
  refine wpAnyH_take (i := 0) (v := ?v74) rfl (by kernel_rfl) (by kernel_rfl) (by kernel_rfl) (fun _ _ _ h => h) (.inl ⟨by kernel_rfl, ?y74⟩) (anyW _) ?_
  case y74 =>
    rintro w' s0
    go_simp
    first | done | with_reducible rfl | rfl
  try simp only [Act.put]
  refine wpAnyH_take (i := 1) (v := ?v75) rfl (by kernel_rfl) (by kernel_rfl) (by kernel_rfl) (fun _ _ _ h => h) (.inl ⟨by kernel_rfl, ?y75⟩) (anyW _) ?_
  case y75 =>
    rintro w' s0
    go_simp
    first | done | with_reducible rfl | rfl
  try simp only [Act.put]
  refine wpAnyH_take (i := 3) (v := ?v76) rfl (by kernel_rfl) (by kernel_rfl) (by kernel_rfl) (fun _ _ _ h => h) (.inl ⟨by kernel_rfl, ?y76⟩) (anyW _) ?_
  case y76 =>
    rintro w' s0
    go_simp
    first | done | with_reducible rfl | rfl
  try simp only [Act.put]
  refine wpAnyH_take (i := 4) (v := ?v77) rfl (by kernel_rfl) (by kernel_rfl) (by kernel_rfl) (fun _ _ _ h => h) (.inl ⟨by kernel_rfl, ?y77⟩) (anyW _) ?_
  case y77 =>
    rintro w' s0
    go_simp
    first | done | with_reducible rfl | rfl
  try simp only [Act.put]
  refine wpAnyH_take (i := 5) (v := ?v78) rfl (by kernel_rfl) (by kernel_rfl) (by kernel_rfl) (fun _ _ _ h => h) (.inl ⟨by kernel_rfl, ?y78⟩) (anyW _) ?_
  case y78 =>
    rintro w' s0
    go_simp
    first | done | with_reducible rfl | rfl
  try simp only [Act.put]
  refine wpAnyH_take (i := 6) (v := ?v79) rfl (by kernel_rfl) (by kernel_rfl) (by kernel_rfl) (fun _ _ _ h => h) (.inl ⟨by kernel_rfl, ?y79⟩) (anyW _) ?_
  case y79 =>
    rintro w' s0
    go_simp
    first | done | with_reducible rfl | rfl
  try simp only [Act.put]
  refine held_one (i := 2) (by kernel_rfl) rfl (by kernel_rfl) ?_
  unfold Oper.wp
  go_simp
  refine (hrows_any V_x V_y na nb c_x c_y x y w3.drew Hx.out Hy.out (by omega) (by omega) r_x r_y Wx.out Wy.out).mono ?_
  intro e v1 hv
  rw [HW.out] at hv
  obtain ⟨A_r, c_r, rfl, hc_r, hm_r, r_r, hb⟩ := hv
  have r_x1 : Row v1 _ _ := Row.below (w := w3.drew) r_x hb
  have r_y1 : Row v1 _ _ := Row.below (w := w3.drew) r_y hb
  have r_t1 : Row v1 _ _ := Row.below (w := w3.drew) r_t hb
  have bb1 := below_go bb.drew hb
  clear hb r_x r_y r_t bb
  refine ⟨(anyW _), ?_⟩
  try simp only [Act.put]
  refine held_one (i := 7) (by kernel_rfl) rfl (by kernel_rfl) ?_
  unfold Oper.wp
  go_simp
  refine (hrows_any V_x V_y ip nb c_x c_y (x.take ip) y v1 HT.out Hy.out (by omega) (by omega) r_t1 r_y1 WT.out Wy.out).mono ?_
  intro e v2 hv
  rw [HW.out] at hv
  obtain ⟨A_s, c_s, rfl, hc_s, hm_s, r_s, hb⟩ := hv
  have r_x := r_x1.below hb
  have r_y := r_y1.below hb
  replace r_r := r_r.below hb
  have bb := below_go bb1 hb
  clear hb r_x1 r_y1 r_t1 bb1
  refine ⟨(anyW _), ?_⟩
  try simp only [Act.put]
  refine wpAnyH_take (i := 8) (v := ?v80) rfl (by kernel_rfl) (by kernel_rfl) (by kernel_rfl) (fun _ _ _ h => h) (.inl ⟨by kernel_rfl, ?y80⟩) (anyW _) ?_
  case y80 =>
    rintro w' s0
    go_simp
    first | done | with_reducible rfl | rfl
  try simp only [Act.put]
  refine wpAnyH_take (i := 9) (v := ?v81) rfl (by kernel_rfl) (by kernel_rfl) (by kernel_rfl) (fun _ _ _ h => h) (.inl ⟨by kernel_rfl, ?y81⟩) (anyW _) ?_
  case y81 =>
    rintro w' s0
    go_simp
    first | done | with_reducible rfl | rfl
  try simp only [Act.put]
  refine held_done (by kernel_rfl) ?_
  go_simp
  have s2 := slice_rows A_r (na + 1) c_r (ip + 1) (by omega)
  rw [show ((ip + 1 : Nat) : Int) = (ip : Int) + 1 by omega] at s2
  clear s1
  go_wp2_with fail
  refine (sameRows_yes A_r A_s (ip + 1) W c_r c_s _ _ v2 (by omega) hWl (r_r.take (by omega)) r_s (fun i hi j => (rows_take i (by omega) j).symm)).mono ?_
  rintro e w4 ⟨rfl, q, hq⟩
  have hb := below_of hq
  clear hq
  have B := below_go (Below.refl _ _) hb
  replace r_x := r_x.below B
  replace r_y := r_y.below B
  replace r_r := r_r.below B
  clear r_s
  replace bb := below_go bb B
  clear B hb
  clear s2
  go_wp2_with fail
  have HR := Lib.hid r_r
  have HX := Lib.hid r_x
  have HY := Lib.hid r_y
  have HB := Lib.hid bb
  clear r_r r_x r_y bb hmx
  go_loopw [12] (fun i wr => GoRel na w4 i wr) (fun i _ => na - (RowKit.intOf i).toNat)
  case atStart => exact ⟨0, Nat.zero_le _, rfl, Below.refl _ _⟩
  case round =>
    obtain ⟨q, hq, rfl, hbr⟩ := hrel
    have hmx : Try.prog.follows .mixedOrders = true := by kernel_rfl
    by_cases hlt : q < na
    · obtain ⟨gx, ox, rfl, q_x⟩ := (HX.out.below hbr).int (k := q) (by rw [Hx.out]; exact hlt)
      have HC : Hid (x[q]? = some (x[q]'(by rw [Hx.out]; exact hlt))) := List.getElem?_eq_getElem _
      generalize x[q]'(by rw [Hx.out]; exact hlt) = sx at *
      obtain ⟨gr, orr, A_p, c_p, x_p, rfl, q_p, hc_p, hm_p, h_p, w_p, b_p, r_p⟩ := (HR.out.below hbr).cell (k := q) (by omega)
      obtain ⟨g1, o1, A_z, c_z, x_z, e1, q_z, _, _, h_z, w_z, b_z, r_z⟩ := (HR.out.below hbr).cell (k := q + 1) (by omega)
      cases e1
      have r_y := HY.out.below hbr
      have z1 : IntKind.i64.wrap ((q : Int) + 1) = (q : Int) + 1 := IntWalk.i64_in _ (by omega)
      have z2 : (q : Int) < (na : Int) + 1 := by omega
      have z3 : (q : Int) + 1 < (na : Int) + 1 := by omega
      have z4 : 0 ≤ (q : Int) + 1 := by omega
      have z5 : ((q : Int) + 1).toNat = q + 1 := by omega
      have z6 : (q : Int) < (na : Int) := by omega
      go_wp2_with fail
      have HS0 : Hid ((GoS gr orr gx ox q (.slice A_z W c_z) (.slice A_p W c_p) sx) wr.drew) := ⟨q_z, q_p, q_x⟩
      clear q_x q_p q_z
      refine wp_region_held (S := GoS gr orr gx ox q (.slice A_z W c_z) (.slice A_p W c_p) sx) hmx ?_
      refine wpAnyH_take (i := 0) (v := ?v82) rfl (by kernel_rfl) (by kernel_rfl) (by kernel_rfl) (fun _ _ _ h => h) (.inl ⟨by kernel_rfl, ?y82⟩) HS0.out ?_
      case y82 =>
        rintro w' ⟨s0, s1, s2⟩
        go_simp
        try simp only [z1, z5]
        first | done | with_reducible rfl | rfl
      try simp only [Act.put]
      refine wpAnyH_take (i := 1) (v := ?v83) rfl (by kernel_rfl) (by kernel_rfl) (by kernel_rfl) (fun _ _ _ h => h) (.inl ⟨by kernel_rfl, ?y83⟩) HS0.out ?_
      case y83 =>
        rintro w' ⟨s0, s1, s2⟩
        go_simp
        try simp only [z1, z5]
        first | done | with_reducible rfl | rfl
      try simp only [Act.put]
      refine wpAnyH_take (i := 2) (v := ?v84) rfl (by kernel_rfl) (by kernel_rfl) (by kernel_rfl) (fun _ _ _ h => h) (.inl ⟨by kernel_rfl, ?y84⟩) HS0.out ?_
      case y84 =>
        rintro w' ⟨s0, s1, s2⟩
        go_simp
        try simp only [z1, z5]
        first | done | with_reducible rfl | rfl
      try simp only [Act.put]
      refine wpAnyH_take (i := 3) (v := ?v85) rfl (by kernel_rfl) (by kernel_rfl) (by kernel_rfl) (fun _ _ _ h => h) (.inl ⟨by kernel_rfl, ?y85⟩) HS0.out ?_
      case y85 =>
        rintro w' ⟨s0, s1, s2⟩
        go_simp
        try simp only [z1, z5]
        first | done | with_reducible rfl | rfl
      try simp only [Act.put]
      refine wpAnyH_take (i := 4) (v := ?v86) rfl (by kernel_rfl) (by kernel_rfl) (by kernel_rfl) (fun _ _ _ h => h) (.inl ⟨by kernel_rfl, ?y86⟩) HS0.out ?_
      case y86 =>
        rintro w' ⟨s0, s1, s2⟩
        go_simp
        try simp only [z1, z5]
        first | done | with_reducible rfl | rfl
      try simp only [Act.put]
      refine wpAnyH_take (i := 5) (v := ?v87) rfl (by kernel_rfl) (by kernel_rfl) (by kernel_rfl) (fun _ _ _ h => h) (.inl ⟨by kernel_rfl, ?y87⟩) HS0.out ?_
      case y87 =>
        rintro w' ⟨s0, s1, s2⟩
        go_simp
        try simp only [z1, z5]
        first | done | with_reducible rfl | rfl
      try simp only [Act.put]
      refine wpAnyH_take (i := 6) (v := ?v88) rfl (by kernel_rfl) (by kernel_rfl) (by kernel_rfl) (fun _ _ _ h => h) (.inl ⟨by kernel_rfl, ?y88⟩) HS0.out ?_
      case y88 =>
        rintro w' ⟨s0, s1, s2⟩
        go_simp
        try simp only [z1, z5]
        first | done | with_reducible rfl | rfl
      try simp only [Act.put]
      refine wpAnyH_take (i := 7) (v := ?v89) rfl (by kernel_rfl) (by kernel_rfl) (by kernel_rfl) (fun _ _ _ h => h) (.inl ⟨by kernel_rfl, ?y89⟩) HS0.out ?_
      case y89 =>
        rintro w' ⟨s0, s1, s2⟩
        go_simp
        try simp only [z1, z5]
        first | done | with_reducible rfl | rfl
      try simp only [Act.put]
      refine wpAnyH_take (i := 8) (v := ?v90) rfl (by kernel_rfl) (by kernel_rfl) (by kernel_rfl) (fun _ _ _ h => h) (.inl ⟨by kernel_rfl, ?y90⟩) HS0.out ?_
      case y90 =>
        rintro w' ⟨s0, s1, s2⟩
        go_simp
        try simp only [z1, z5]
        first | done | with_reducible rfl | rfl
      try simp only [Act.put]
      refine wpAnyH_take (i := 9) (v := ?v91) rfl (by kernel_rfl) (by kernel_rfl) (by kernel_rfl) (fun _ _ _ h => h) (.inl ⟨by kernel_rfl, ?y91⟩) HS0.out ?_
      case y91 =>
        rintro w' ⟨s0, s1, s2⟩
        go_simp
        try simp only [z1, z5]
        first | done | with_reducible rfl | rfl
      try simp only [Act.put]
      refine wpAnyH_take (i := 10) (v := ?v92) rfl (by kernel_rfl) (by kernel_rfl) (by kernel_rfl) (fun _ _ _ h => h) (.inl ⟨by kernel_rfl, ?y92⟩) HS0.out ?_
      case y92 =>
        rintro w' ⟨s0, s1, s2⟩
        go_simp
        try simp only [z1, z5]
        first | done | with_reducible rfl | rfl
      try simp only [Act.put]
      refine wpAnyH_take (i := 11) (v := ?v93) rfl (by kernel_rfl) (by kernel_rfl) (by kernel_rfl) (fun _ _ _ h => h) (.inl ⟨by kernel_rfl, ?y93⟩) HS0.out ?_
      case y93 =>
        rintro w' ⟨s0, s1, s2⟩
        go_simp
        try simp only [z1, z5]
        first | done | with_reducible rfl | rfl
      try simp only [Act.put]
      refine wpAnyH_take (i := 12) (v := ?v94) rfl (by kernel_rfl) (by kernel_rfl) (by kernel_rfl) (fun _ _ _ h => h) (.inl ⟨by kernel_rfl, ?y94⟩) HS0.out ?_
      case y94 =>
        rintro w' ⟨s0, s1, s2⟩
        go_simp
        try simp only [z1, z5]
        first | done | with_reducible rfl | rfl
      try simp only [Act.put]
      refine wpAnyH_take (i := 13) (v := ?v95) rfl (by kernel_rfl) (by kernel_rfl) (by kernel_rfl) (fun _ _ _ h => h) (.inl ⟨by kernel_rfl, ?y95⟩) HS0.out ?_
      case y95 =>
        rintro w' ⟨s0, s1, s2⟩
        go_simp
        try simp only [z1, z5]
        first | done | with_reducible rfl | rfl
      try simp only [Act.put]
      refine wpAnyH_take (i := 15) (v := ?v96) rfl (by kernel_rfl) (by kernel_rfl) (by kernel_rfl) (fun _ _ _ h => h) (.inl ⟨by kernel_rfl, ?y96⟩) HS0.out ?_
      case y96 =>
        rintro w' ⟨s0, s1, s2⟩
        go_simp
        try simp only [z1, z5]
        first | done | with_reducible rfl | rfl
      try simp only [Act.put]
      refine wpAnyH_take (i := 16) (v := ?v97) rfl (by kernel_rfl) (by kernel_rfl) (by kernel_rfl) (fun _ _ _ h => h) (.inl ⟨by kernel_rfl, ?y97⟩) HS0.out ?_
      case y97 =>
        rintro w' ⟨s0, s1, s2⟩
        go_simp
        try simp only [z1, z5]
        first | done | with_reducible rfl | rfl
      try simp only [Act.put]
      refine held_one (i := 14) (by kernel_rfl) rfl (by kernel_rfl) ?_
      unfold Oper.wp
      go_simp
      refine (refMask_any V_y nb c_y y sx wr.drew Hy.out (by omega) r_y).mono ?_
      intro e v3 hv
      rw [HW.out] at hv
      obtain ⟨A_u, c_u, x_u, rfl, h_u, hc_u, hm_u, w_u, b_u, r_u, hb⟩ := madeV_words hv
      have HS1 := Lib.hid (HS0.out.below hb)
      have r_p1 : Row v3 _ _ := Row.below (w := wr.drew) r_p hb
      have r_z1 : Row v3 _ _ := Row.below (w := wr.drew) r_z hb
      have hb3 := hbr.drew.trans (hb.mono hbr.size)
      clear hv hb HS0 r_p r_z r_y hbr
      refine ⟨HS1.out, ?_⟩
      try simp only [Act.put]
      refine held_one (i := 17) (by kernel_rfl) rfl (by kernel_rfl) ?_
      unfold Oper.wp
      go_simp
      refine (hrow_any A_p A_u W W c_p c_u x_p x_u (nb : Int) v3 h_p h_u hWl hWl hc_p hm_p (i64_small (by omega)) r_p1 r_u w_p w_u).mono ?_
      intro e v4 hv
      rw [HW.out, HWM.out] at hv
      obtain ⟨A_q, c_q, x_q, rfl, h_q, hc_q, hm_q, w_q, b_q, r_q, hb⟩ := madeV_words hv
      have HS2 := Lib.hid (HS1.out.below hb)
      have r_z2 := r_z1.below hb
      have hb4 := hb3.trans (hb.mono hb3.size)
      have EQ : Hid (x_z = x_q) := by
        have hyl : y.length = nb := Hy.out
        exact next_same (x := x) (y := y) (k := q) (W := W) (c := sx) (by rw [hyl]; exact HNW.out) HC.out (by rw [hyl]; exact b_p) b_u (by rw [hyl]; exact b_q) (by rw [hyl]; exact b_z) h_z h_q w_z w_q
      clear hv hb hb3 HS1 r_p1 r_u r_z1 w_u w_p w_q w_z b_u b_p b_q b_z
      refine ⟨HS2.out, ?_⟩
      try simp only [Act.put]
      refine held_one (i := 18) (by kernel_rfl) rfl (by kernel_rfl) ?_
      unfold Oper.wp
      go_simp
      refine (sameW_same A_z A_q W c_z c_q x_z x_q v4 h_z h_q (by omega) r_z2 r_q EQ.out).mono ?_
      rintro e v5 ⟨rfl, q5, hq5⟩
      have hb := below_of hq5
      have HS3 := Lib.hid (HS2.out.below hb)
      have hb5 := hb4.trans (hb.mono hb4.size)
      have R : Hid (GoRel na w4 (.int .i64 ((q + 1 : Nat) : Int)) v5) := ⟨q + 1, hlt, rfl, hb5⟩
      clear hb hb4 HS2 r_z2 r_q hq5 EQ hb5
      refine ⟨HS3.out, ?_⟩
      try simp only [Act.put]
      refine wpAnyH_take (i := 19) (v := ?v98) rfl (by kernel_rfl) (by kernel_rfl) (by kernel_rfl) (fun _ _ _ h => h) (.inl ⟨by kernel_rfl, ?y98⟩) HS3.out ?_
      case y98 =>
        rintro w' ⟨s0, s1, s2⟩
        go_simp
        first | done | with_reducible rfl | rfl
      try simp only [Act.put]
      refine held_done (by kernel_rfl) ?_
      go_simp
      go_wp2_with fail
      go_roundw
      case rel => first | exact R.out | ((repeat apply Exists.intro); exact ⟨R.out, rfl⟩)
      case measure => simp [RowKit.intOf]; omega
    · obtain rfl : q = na := by omega
      obtain ⟨gr, orr, A_p, c_p, x_p, rfl, q_p, hc_p, hm_p, h_p, w_p, b_p, r_p⟩ := (HR.out.below hbr).cell (k := q) (by omega)
      have HZ : Hid (cnt (bt x_p) nb + lcs x y = nb) := by
        have := zeros_of x y (z := x_p) (by rw [Hx.out, Hy.out]; exact b_p)
        rw [Hy.out] at this
        exact this
      have r_x := HX.out.below hbr
      have r_y := HY.out.below hbr
      have hCt := count_any A_p W c_p x_p (nb : Int) wr h_p r_p w_p
      rw [HWM.out] at hCt
      have bb := below_go HB.out hbr
      have hLn := fun w' (rx : Row w' V_x (iv x)) (ry : Row w' V_y (iv y)) => hlen_any V_x V_y q nb c_x c_y x y w' Hx.out Hy.out (by omega) (by omega) rx ry Wx.out Wy.out
      clear b_p w_p r_p hmx HR HX HY HB hbr
      obtain ⟨N, hN⟩ : ∃ N, cnt (bt x_p) nb = N := ⟨_, rfl⟩
      obtain ⟨L, hL⟩ : ∃ L, lcs x y = L := ⟨_, rfl⟩
      rw [hN, hL] at HZ
      rw [hN] at hCt
      rw [hL] at hLn
      have z1 : (q : Int) < (q : Int) + 1 := by omega
      have HZ2 := HZ.out
      have z2 : (nb : Int) - (N : Int) = (L : Int) := by omega
      clear hN hL HZ
      go_wp2_with fail
      refine hCt.mono ?_
      rintro e v1 ⟨rfl, e1⟩
      subst e1
      clear hCt
      go_wp2_with fail
      refine (hLn _ r_x r_y).mono ?_
      rintro e v2 ⟨rfl, hb⟩
      replace bb := below_go bb hb
      have HF := Lib.hid (Yes.of bb)
      clear hb hLn r_x r_y bb
      go_wp2_with fail
      go_ret
      exact HF.out

/-! ### The row's step -/
theorem own : ownKnob Try.prog.godebug = none := by kernel_rfl
theorem laidOut : laidOutB Try.prog = true := by kernel_rfl

set_option maxRecDepth 100000 in
theorem contract (H : Type) (enc : TypeId × Value → H) (W : World) (base : Nat) (args : Array Value) (ds gs : List (DataW H)) (before : List MemPlace)
    (hval : ∀ (j : Nat) t v, Try.f8.params[j]? = some t → args[j]? = some v → Value.okWide Try.prog W .any base t v)
    (hW : DataW.Whole enc Try.prog Try.f8.params.toList Rows.hyyroGoesSpec.vars false W args.toList ds gs before) :
    Calls Try.prog 8 args W fun e W' => ∃ v, e = .returned v ∧ Rows.hyyroGoesSpec.post enc Try.prog Try.f8 false true false false W args v W' := by
  have hW' := hW
  obtain ⟨p, q, hA0, hV, rfl, hfz, hnd⟩ := hW
  have hA : DataW.TrodAll enc Try.prog W 0 (fun _ => true) true Try.f8.params.toList args.toList ds p := hA0
  rw [Try.params8] at hA hval
  obtain ⟨v0, vs0, d0, ds0, p0, q0, hargs, rfl, rfl, h0, r0⟩ := trodAll_cons hA
  obtain ⟨v1, vs1, d1, ds1, p1, q1, rfl, rfl, rfl, h1, r1⟩ := trodAll_cons r0
  obtain ⟨v2, vs2, d2, ds2, p2, q2, rfl, rfl, rfl, h2, r2⟩ := trodAll_cons r1
  obtain ⟨rfl, rfl, rfl⟩ := trodAll_nil r2
  obtain rfl : args = #[v0, v1, v2] := by cases args; simp_all
  obtain ⟨rfl, rfl⟩ := trodVars_none hV
  have k0 := h0
  have lt0 : ∀ x ∈ p0, x.block < W.heap.size := by obtain ⟨m, hm⟩ := k0; exact DataW.trod_lt m _ _ _ hm
  obtain ⟨A0, n0, c0, e0⟩ := okWide_slice Try.underlying27 (hval 0 27 v0 rfl rfl)
  subst e0
  obtain ⟨l0, w0⟩ := open_argI Try.underlying27 Try.underlying3 (by kernel_rfl) h0
  have k1 := h1
  have lt1 : ∀ x ∈ p1, x.block < W.heap.size := by obtain ⟨m, hm⟩ := k1; exact DataW.trod_lt m _ _ _ hm
  obtain ⟨A1, n1, c1, e1⟩ := okWide_slice Try.underlying27 (hval 1 27 v1 rfl rfl)
  subst e1
  obtain ⟨l1, w1⟩ := open_argI Try.underlying27 Try.underlying3 (by kernel_rfl) h1
  have k2 := h2
  have lt2 : ∀ x ∈ p2, x.block < W.heap.size := by obtain ⟨m, hm⟩ := k2; exact DataW.trod_lt m _ _ _ hm
  obtain ⟨a2, e2, _, _, w2⟩ := open_int Try.underlying5 (hval 2 5 v2 rfl rfl) h2
  subst e2
  clear hA0
  refine (hyyroGoes_walk A0 n0 c0 l0 A1 n1 c1 l1 a2 W w0 w1 w2).mono fun e W' ⟨he, bel⟩ => ?_
  subst he
  exact ⟨_, rfl, _, _, _, [], _, [], hW', trodAll_mk1 (shut_bool Try.underlying4 _), (trodAll_cons_mk (Below.trod laidOut (by kernel_rfl) (of_decide_eq_true (by kernel_rfl)) k0 bel lt0) (trodAll_cons_mk (Below.trod laidOut (by kernel_rfl) (of_decide_eq_true (by kernel_rfl)) k1 bel lt1) (trodAll_cons_mk (Below.trod laidOut (by kernel_rfl) (of_decide_eq_true (by kernel_rfl)) k2 bel lt2) trodAll_mk0))), rfl, bel.frame _, fun h => by cases h⟩

set_option maxRecDepth 100000 in
theorem lifted (os : Os) (started : os.Started) (H : Type) (enc : TypeId × Value → H) :
    ReturnsInHanded {} Try.checked os 8 .any (Rows.hyyroGoesSpec.pre6 enc Try.prog Try.f8 Rows.hyyroGoesRow.domain false) (Rows.hyyroGoesSpec.post enc Try.prog Try.f8 false true false false) := by
  refine returnsInHanded_of_change (C := Try.checked) own started (by kernel_rfl) Try.func8
    (ChangeSpec.witness6 (enc := enc) (C := Try.checked) false ⟨#[], #[.slice none 0 0, .slice none 0 0, .int .u8 0], []⟩ 8 (by kernel_rfl) (by kernel_rfl) (by kernel_rfl) (by kernel_rfl)) ?_
  intro W base args ds gs before hval hW _ _
  exact contract H enc W base args ds gs before hval hW

/-- The statement. -/
theorem proved : Rows.HyyroGoesSaid :=
  OpenClaim.holds_of_wide 8 Try.f8 rfl rfl rfl rfl rfl rfl rfl ⟨rfl, rfl, rfl, rfl, rfl⟩ rfl rfl rfl rfl rfl (by kernel_rfl) Try.func8 (by kernel_rfl)
    (of_decide_eq_true (by kernel_rfl)) (by unfold Func.isWrapper; first | (rw [if_pos (by decide +kernel)]; kernel_rfl) | (rw [if_neg (by decide +kernel)]; exact ⟨rfl, rfl⟩))
    (fun os started H enc _ => lifted os started H enc)

end Go.Proofs.Ytjkppifhjednoaa.hyyroGoesP
