/-
  Proved: for every input tattinglaw1.TokParts returns true, and its arguments read afterwards as before. No condition.
-/
import Derived.Test.YtjhadoglcmhloaaAwake1
import Derived.Test.YtjhadoglcmhloaaArgs
namespace Go.Proofs.Ytjhadoglcmhloaa.tokPartsP
open Go.ChangeShapes Go.WideShapes Go.ChangeAt Go.RowKit
open Go.ChangeMaps (open_string shut_string)

/-- Behind an append onto an empty literal nothing that was there has turned. -/
theorem grew_empty {w w2 : World} {t : TypeId} (hg : (w.alloc (.cells #[] t)).grownBy w2 (Value.ownBlock (.slice (some ⟨w.heap.size, 0, none⟩) 0 0))) : Below w.heap.size w w2 :=
  ((Below.refl _ _).alloc (Nat.le_refl _) _).grown hg (by simp) (fun k hk => by
    simp only [Value.ownBlock, Option.some.injEq] at hk
    omega)

set_option maxHeartbeats 3200000 in
theorem parts_walk_bytes (A A' : Option Addr) (c c' : Nat) (l l' : List UInt8) (w : World) (_hc : l.length ≤ c) (hr : Row w A (bv l)) (hnil : A = none → c = 0) (hc' : l'.length ≤ c') (hr' : Row w A' (bv l')) (hnil' : A' = none → c' = 0) (hsm : l.length ≤ 150) (hsm' : l'.length ≤ 150) :
    Calls Try.prog 7 #[.bool false, .slice A l.length c, .slice A' l'.length c'] w (Yes w) := by
  obtain ⟨i0, hi, hz0, hz1, hz2⟩ := info_parts Try.infoU8
  obtain ⟨j0, hj, hy0, hy1, hy2⟩ := info_parts Try.infoBs
  have HN := Lib.hid hnil
  have HN' := Lib.hid hnil'
  clear hnil hnil'
  go_enter Try.func7, Try.ntmps7
  go_wp2_with fail
  refine (awake_yes _).mono ?_
  rintro e w1 ⟨rfl, hb1⟩
  have hr1 := hr.below hb1
  have hr1' := hr'.below hb1
  clear hr hr'
  go_wp2_with (at_builtin; refine append_row rfl (.tmp 25) (.tmp 26) 27 rfl w1.heap.size 5 i0 (.int .u8 0) 1 Try.underlying27 hi hz0 hz1 hz2 rfl _ _ _ rfl (own_empty w1 5) A l.length c (bv l) rfl (bv_length l) (hr1.below ((Below.refl _ _).alloc (Nat.le_refl _) _)) HN.out (bv_one l) (by unfold maxLen; omega) (by omega) (by simp) ?_)
  intro v w2 hown0 hg
  have hbA : Below w1.heap.size w1 w2 := grew_empty hg
  have hown : w2.ownsRow w1.heap.size 5 1 v l.length (bv l) := by simpa using hown0
  clear hown0 hg
  obtain ⟨w3, h3⟩ : ∃ x, x = w2 := ⟨_, rfl⟩
  obtain ⟨F, hF⟩ : ∃ x, x = l := ⟨_, rfl⟩
  have hb13 : Below w1.heap.size w1 w3 := h3 ▸ hbA
  have HF := Lib.hid hF
  rw [← h3] at hown ⊢
  rw [← hF] at hown
  clear h3 hF hbA
  have hbw : Below w.heap.size w w3 := hb1.trans (hb13.mono hb1.size)
  have hr3' := hr1'.below hb13
  clear hr1 hr1' hb13 hb1
  obtain ⟨Af, cf, hve, hcf, hcfm, hrf, hnf⟩ := OwnB.form hown
  have hflen : F.length ≤ 151 := by rw [HF.out]; omega
  subst hve
  clear hown
  go_wp2_with fail
  refine (cut_yes 0 Af _ cf F _ rfl hcf (by omega) hrf (by decide)).mono ?_
  rintro e w4 ⟨x, xs, rfl, hownx, hbx, hb4⟩
  have hr4' := hr3'.below hb4
  have hrf4 := hrf.below hb4
  obtain ⟨Ax, cx, rfl, _, _, hqx, hnx⟩ := own_slice hownx
  have hbx4 := hbx.bss
  have hbw4 := hbw.trans (hb4.mono hbw.size)
  clear hr3' hrf hbw hb4 hbx hownx
  go_wp2_with fail
  refine (cut_yes 0 A' _ c' l' _ rfl hc' (by omega) hr4' (by decide)).mono ?_
  rintro e w5 ⟨y, ys, rfl, howny, hby, hb5⟩
  have hr5' := hr4'.below hb5
  have hrf5 := hrf4.below hb5
  have hqx5 := hqx.below hb5
  have hbx5 := hbx4.below hb5
  obtain ⟨Ay, cy, rfl, _, _, hqy, hny⟩ := own_slice howny
  have hby5 := hby.bss
  have hbw5 := hbw4.trans (hb5.mono hbw4.size)
  clear hr4' hrf4 hqx hbx4 hbw4 hb5 hby howny
  have HX := Lib.hid hnx
  have HY := Lib.hid hny
  have HFn := Lib.hid hnf
  clear hnx hny hnf
  go_wp2_with (at_builtin; refine append_row rfl (.tmp 46) (.tmp 47) 27 rfl w5.heap.size 5 i0 (.int .u8 0) 1 Try.underlying27 hi hz0 hz1 hz2 rfl _ _ _ rfl (own_empty w5 5) Af F.length cf (bv F) rfl (bv_length F) (hrf5.below ((Below.refl _ _).alloc (Nat.le_refl _) _)) HFn.out (bv_one F) (by unfold maxLen; omega) (by omega) (by simp) ?_)
  intro v6 w6 hown0 hg
  have hb6 : Below w5.heap.size w5 w6 := grew_empty hg
  have hown6 : w6.ownsRow w5.heap.size 5 1 v6 F.length (bv F) := by simpa using hown0
  have hr6' := hr5'.below hb6
  have hs6 := hb6.size
  clear hown0 hg
  go_wp2_with (at_builtin; refine append_row rfl (.tmp 48) (.tmp 49) 27 rfl w5.heap.size 5 i0 (.int .u8 0) 1 Try.underlying27 hi hz0 hz1 hz2 rfl _ _ _ rfl hown6 A' l'.length c' (bv l') rfl (bv_length l') hr6' HN'.out (bv_one l') (by unfold maxLen; omega) (by omega) hs6 ?_)
  intro v7 w7 hown0 hg
  have hb7 : Below w5.heap.size w5 w7 := hb6.grown hg hs6 (fun k hk => (hown6.lt k hk).1)
  have hown7 : OwnB w5.heap.size w7 v7 (F ++ l') := by unfold OwnB; rw [bv_append, List.length_append]; exact hown0
  clear hown0 hg hown6 hr6' hs6 hb6
  have hqx7 := hqx5.below hb7
  have hbx7 := hbx5.below hb7
  have hqy7 := hqy.below hb7
  have hby7 := hby5.below hb7
  have hbw7 := hbw5.trans (hb7.mono hbw5.size)
  clear hqx5 hbx5 hqy hby5 hbw5 hb7 hr5' hrf5
  obtain ⟨Az, cz, hve, hcz, hczm, hrz, hnz⟩ := hown7.form
  subst hve
  clear hown7 hnz
  have hzl : (F ++ l').length ≤ 301 := by rw [List.length_append]; omega
  generalize hz : F ++ l' = z at *
  have HZ := Lib.hid hz
  clear hz
  go_wp2_with fail
  refine (cut_yes 0 Az _ cz z _ rfl hcz (by omega) hrz (by decide)).mono ?_
  rintro e w8 ⟨u, us, rfl, hownz, hbz, hb8⟩
  have hqx8 := hqx7.below hb8
  have hbx8 := hbx7.below hb8
  have hqy8 := hqy7.below hb8
  have hby8 := hby7.below hb8
  have hbw8 := hbw7.trans (hb8.mono hbw7.size)
  obtain ⟨Au, cu, rfl, _, _, hqz, _⟩ := own_slice hownz
  have hbz8 := hbz.bss
  clear hqx7 hbx7 hqy7 hby7 hbw7 hb8 hrz hownz hbz
  have lx := cut_len 0 F
  have ly := cut_len 0 l'
  have lz := cut_len 0 z
  have ex := hbx8.1
  have ey := hby8.1
  have EX := Lib.hid ex
  have EY := Lib.hid ey
  clear ex ey
  go_wp2_with (at_builtin; refine append_row rfl (.tmp 58) (.tmp 59) 23 rfl w8.heap.size 27 j0 (.slice none 0 0) 24 Try.underlying23 hj hy0 hy1 hy2 rfl _ _ _ rfl (own_empty w8 27) Ax (cut 0 F).length cx xs rfl EX.out (hqx8.below ((Below.refl _ _).alloc (Nat.le_refl _) _)) HX.out hbx8.one (by unfold maxLen; omega) (by omega) (by simp) ?_)
  intro v9 w9 hown0 hg
  have hb9 : Below w8.heap.size w8 w9 := grew_empty hg
  have hown9 : w9.ownsRow w8.heap.size 27 1 v9 (cut 0 F).length xs := by simpa using hown0
  have hs9 := hb9.size
  have hqy9 := hqy8.below hb9
  clear hown0 hg
  go_wp2_with (at_builtin; refine append_row rfl (.tmp 60) (.tmp 61) 23 rfl w8.heap.size 27 j0 (.slice none 0 0) 24 Try.underlying23 hj hy0 hy1 hy2 rfl _ _ _ rfl hown9 Ay (cut 0 l').length cy ys rfl EY.out hqy9 HY.out hby8.one (by unfold maxLen; omega) (by omega) hs9 ?_)
  intro v10 w10 hown10 hg
  have hb10 : Below w8.heap.size w8 w10 := hb9.grown hg hs9 (fun k hk => (hown9.lt k hk).1)
  clear hg hown9 hb9 hs9 hqy9
  obtain ⟨At, ct, rfl, _, _, hqt, _⟩ := own_slice hown10
  have hcut : cut 0 z = cut 0 F ++ cut 0 l' := by rw [← HZ.out, HF.out]; exact cut_append_bytes _ _
  have hlast := (same_any Au At _ _ cu ct us (xs ++ ys) (cut 0 z) (cut 0 F ++ cut 0 l') w10 rfl (List.length_append) (by omega) (hqz.below hb10) (hbz8.below hb10) hqt ((hbx8.append hby8).below hb10))
  rw [decide_eq_true hcut] at hlast
  have HL := Lib.hid hlast
  clear hlast
  have HC := Lib.hid hcut
  clear hcut
  go_wp2_with fail
  refine HL.out.mono ?_
  rintro e w' ⟨rfl, q, rfl⟩
  go_wp2_with fail
  go_ret
  exact ⟨rfl, below_drewN (hbw8.trans (hb10.mono hbw8.size)) q⟩

set_option maxHeartbeats 3200000 in
theorem parts_walk_lines (A A' : Option Addr) (c c' : Nat) (l l' : List UInt8) (w : World) (_hc : l.length ≤ c) (hr : Row w A (bv l)) (hnil : A = none → c = 0) (hc' : l'.length ≤ c') (hr' : Row w A' (bv l')) (hnil' : A' = none → c' = 0) (hsm : l.length ≤ 150) (hsm' : l'.length ≤ 150) :
    Calls Try.prog 7 #[.bool true, .slice A l.length c, .slice A' l'.length c'] w (Yes w) := by
  obtain ⟨i0, hi, hz0, hz1, hz2⟩ := info_parts Try.infoU8
  obtain ⟨j0, hj, hy0, hy1, hy2⟩ := info_parts Try.infoBs
  have HN := Lib.hid hnil
  have HN' := Lib.hid hnil'
  clear hnil hnil'
  go_enter Try.func7, Try.ntmps7
  go_wp2_with fail
  refine (awake_yes _).mono ?_
  rintro e w1 ⟨rfl, hb1⟩
  have hr1 := hr.below hb1
  have hr1' := hr'.below hb1
  clear hr hr'
  go_wp2_with (at_builtin; refine append_row rfl (.tmp 25) (.tmp 26) 27 rfl w1.heap.size 5 i0 (.int .u8 0) 1 Try.underlying27 hi hz0 hz1 hz2 rfl _ _ _ rfl (own_empty w1 5) A l.length c (bv l) rfl (bv_length l) (hr1.below ((Below.refl _ _).alloc (Nat.le_refl _) _)) HN.out (bv_one l) (by unfold maxLen; omega) (by omega) (by simp) ?_)
  intro v w2 hown0 hg
  have hbA : Below w1.heap.size w1 w2 := grew_empty hg
  have hown : w2.ownsRow w1.heap.size 5 1 v l.length (bv l) := by simpa using hown0
  clear hown0 hg
  have hsA := hbA.size
  obtain ⟨A0, n0, c0, hv0⟩ := OwnB.isSlice hown
  subst hv0
  go_wp2_with (at_builtin; refine append_row rfl (.tmp 29) (.tmp 30) 27 rfl w1.heap.size 5 i0 (.int .u8 0) 1 Try.underlying27 hi hz0 hz1 hz2 rfl _ _ _ rfl (hown.alloc _) (some ⟨w2.heap.size, 0, none⟩) 1 1 [.int .u8 10] rfl rfl (Row.new w2 _ _ _) (fun e => by cases e) (one_int _ _) (by unfold maxLen; omega) (by omega) (by simp; omega) ?_)
  intro v3 w3 hown3 hg3
  have hb13 : Below w1.heap.size w1 w3 := (hbA.alloc hsA _).grown hg3 (by simp; omega) (fun k hk => (hown.lt k hk).1)
  obtain ⟨F, hF⟩ : ∃ x, x = l ++ [10] := ⟨_, rfl⟩
  have hownF : OwnB w1.heap.size w3 v3 F := by unfold OwnB; rw [hF, bv_append, List.length_append]; exact hown3
  have HF := Lib.hid hF
  clear hown hown3 hg3 hF hbA hsA
  have hown := hownF
  clear hownF
  have hbw : Below w.heap.size w w3 := hb1.trans (hb13.mono hb1.size)
  have hr3' := hr1'.below hb13
  clear hr1 hr1' hb13 hb1
  obtain ⟨Af, cf, hve, hcf, hcfm, hrf, hnf⟩ := OwnB.form hown
  have hflen : F.length ≤ 151 := by rw [HF.out]; rw [List.length_append]; simp; omega
  subst hve
  clear hown
  go_wp2_with fail
  refine (cut_yes 1 Af _ cf F _ rfl hcf (by omega) hrf (by decide)).mono ?_
  rintro e w4 ⟨x, xs, rfl, hownx, hbx, hb4⟩
  have hr4' := hr3'.below hb4
  have hrf4 := hrf.below hb4
  obtain ⟨Ax, cx, rfl, _, _, hqx, hnx⟩ := own_slice hownx
  have hbx4 := hbx.bss
  have hbw4 := hbw.trans (hb4.mono hbw.size)
  clear hr3' hrf hbw hb4 hbx hownx
  go_wp2_with fail
  refine (cut_yes 1 A' _ c' l' _ rfl hc' (by omega) hr4' (by decide)).mono ?_
  rintro e w5 ⟨y, ys, rfl, howny, hby, hb5⟩
  have hr5' := hr4'.below hb5
  have hrf5 := hrf4.below hb5
  have hqx5 := hqx.below hb5
  have hbx5 := hbx4.below hb5
  obtain ⟨Ay, cy, rfl, _, _, hqy, hny⟩ := own_slice howny
  have hby5 := hby.bss
  have hbw5 := hbw4.trans (hb5.mono hbw4.size)
  clear hr4' hrf4 hqx hbx4 hbw4 hb5 hby howny
  have HX := Lib.hid hnx
  have HY := Lib.hid hny
  have HFn := Lib.hid hnf
  clear hnx hny hnf
  go_wp2_with (at_builtin; refine append_row rfl (.tmp 46) (.tmp 47) 27 rfl w5.heap.size 5 i0 (.int .u8 0) 1 Try.underlying27 hi hz0 hz1 hz2 rfl _ _ _ rfl (own_empty w5 5) Af F.length cf (bv F) rfl (bv_length F) (hrf5.below ((Below.refl _ _).alloc (Nat.le_refl _) _)) HFn.out (bv_one F) (by unfold maxLen; omega) (by omega) (by simp) ?_)
  intro v6 w6 hown0 hg
  have hb6 : Below w5.heap.size w5 w6 := grew_empty hg
  have hown6 : w6.ownsRow w5.heap.size 5 1 v6 F.length (bv F) := by simpa using hown0
  have hr6' := hr5'.below hb6
  have hs6 := hb6.size
  clear hown0 hg
  go_wp2_with (at_builtin; refine append_row rfl (.tmp 48) (.tmp 49) 27 rfl w5.heap.size 5 i0 (.int .u8 0) 1 Try.underlying27 hi hz0 hz1 hz2 rfl _ _ _ rfl hown6 A' l'.length c' (bv l') rfl (bv_length l') hr6' HN'.out (bv_one l') (by unfold maxLen; omega) (by omega) hs6 ?_)
  intro v7 w7 hown0 hg
  have hb7 : Below w5.heap.size w5 w7 := hb6.grown hg hs6 (fun k hk => (hown6.lt k hk).1)
  have hown7 : OwnB w5.heap.size w7 v7 (F ++ l') := by unfold OwnB; rw [bv_append, List.length_append]; exact hown0
  clear hown0 hg hown6 hr6' hs6 hb6
  have hqx7 := hqx5.below hb7
  have hbx7 := hbx5.below hb7
  have hqy7 := hqy.below hb7
  have hby7 := hby5.below hb7
  have hbw7 := hbw5.trans (hb7.mono hbw5.size)
  clear hqx5 hbx5 hqy hby5 hbw5 hb7 hr5' hrf5
  obtain ⟨Az, cz, hve, hcz, hczm, hrz, hnz⟩ := hown7.form
  subst hve
  clear hown7 hnz
  have hzl : (F ++ l').length ≤ 301 := by rw [List.length_append]; omega
  generalize hz : F ++ l' = z at *
  have HZ := Lib.hid hz
  clear hz
  go_wp2_with fail
  refine (cut_yes 1 Az _ cz z _ rfl hcz (by omega) hrz (by decide)).mono ?_
  rintro e w8 ⟨u, us, rfl, hownz, hbz, hb8⟩
  have hqx8 := hqx7.below hb8
  have hbx8 := hbx7.below hb8
  have hqy8 := hqy7.below hb8
  have hby8 := hby7.below hb8
  have hbw8 := hbw7.trans (hb8.mono hbw7.size)
  obtain ⟨Au, cu, rfl, _, _, hqz, _⟩ := own_slice hownz
  have hbz8 := hbz.bss
  clear hqx7 hbx7 hqy7 hby7 hbw7 hb8 hrz hownz hbz
  have lx := cut_len 1 F
  have ly := cut_len 1 l'
  have lz := cut_len 1 z
  have ex := hbx8.1
  have ey := hby8.1
  have EX := Lib.hid ex
  have EY := Lib.hid ey
  clear ex ey
  go_wp2_with (at_builtin; refine append_row rfl (.tmp 58) (.tmp 59) 23 rfl w8.heap.size 27 j0 (.slice none 0 0) 24 Try.underlying23 hj hy0 hy1 hy2 rfl _ _ _ rfl (own_empty w8 27) Ax (cut 1 F).length cx xs rfl EX.out (hqx8.below ((Below.refl _ _).alloc (Nat.le_refl _) _)) HX.out hbx8.one (by unfold maxLen; omega) (by omega) (by simp) ?_)
  intro v9 w9 hown0 hg
  have hb9 : Below w8.heap.size w8 w9 := grew_empty hg
  have hown9 : w9.ownsRow w8.heap.size 27 1 v9 (cut 1 F).length xs := by simpa using hown0
  have hs9 := hb9.size
  have hqy9 := hqy8.below hb9
  clear hown0 hg
  go_wp2_with (at_builtin; refine append_row rfl (.tmp 60) (.tmp 61) 23 rfl w8.heap.size 27 j0 (.slice none 0 0) 24 Try.underlying23 hj hy0 hy1 hy2 rfl _ _ _ rfl hown9 Ay (cut 1 l').length cy ys rfl EY.out hqy9 HY.out hby8.one (by unfold maxLen; omega) (by omega) hs9 ?_)
  intro v10 w10 hown10 hg
  have hb10 : Below w8.heap.size w8 w10 := hb9.grown hg hs9 (fun k hk => (hown9.lt k hk).1)
  clear hg hown9 hb9 hs9 hqy9
  obtain ⟨At, ct, rfl, _, _, hqt, _⟩ := own_slice hown10
  have hcut : cut 1 z = cut 1 F ++ cut 1 l' := by rw [← HZ.out, HF.out]; exact cut_append_lines _ _
  have hlast := (same_any Au At _ _ cu ct us (xs ++ ys) (cut 1 z) (cut 1 F ++ cut 1 l') w10 rfl (List.length_append) (by omega) (hqz.below hb10) (hbz8.below hb10) hqt ((hbx8.append hby8).below hb10))
  rw [decide_eq_true hcut] at hlast
  have HL := Lib.hid hlast
  clear hlast
  have HC := Lib.hid hcut
  clear hcut
  go_wp2_with fail
  refine HL.out.mono ?_
  rintro e w' ⟨rfl, q, rfl⟩
  go_wp2_with fail
  go_ret
  exact ⟨rfl, below_drewN (hbw8.trans (hb10.mono hbw8.size)) q⟩

theorem tokParts_walk (b : Bool) (A : Option Addr) (n c : Nat) (l : List UInt8) (A' : Option Addr) (n' c' : Nat) (l' : List UInt8) (w : World) (hb : ArgB w A n c l) (hb' : ArgB w A' n' c' l') :
    Calls Try.prog 7 #[.bool b, .slice A n c, .slice A' n' c'] w (Yes w) := by
  by_cases hbig : 150 < n
  · go_enter Try.func7, Try.ntmps7
    go_wp2_with fail
    refine (awake_yes _).mono ?_
    rintro e w1 ⟨rfl, hb1⟩
    go_wp2_with fail
    go_ret
    exact ⟨rfl, hb1⟩
  by_cases hbig2 : 150 < n'
  · go_enter Try.func7, Try.ntmps7
    go_wp2_with fail
    refine (awake_yes _).mono ?_
    rintro e w1 ⟨rfl, hb1⟩
    go_wp2_with fail
    go_ret
    exact ⟨rfl, hb1⟩
  obtain ⟨hn, hc, hcm, hr, hnil⟩ := hb
  obtain ⟨hn', hc', hcm', hr', hnil'⟩ := hb'
  subst hn
  subst hn'
  cases b
  · exact parts_walk_bytes A A' c c' l l' w hc hr hnil hc' hr' hnil' (by omega) (by omega)
  · exact parts_walk_lines A A' c c' l l' w hc hr hnil hc' hr' hnil' (by omega) (by omega)

/-! ### The row's step -/
theorem own : ownKnob Try.prog.godebug = none := by kernel_rfl
theorem laidOut : laidOutB Try.prog = true := by kernel_rfl

theorem contract (H : Type) (enc : TypeId × Value → H) (W : World) (base : Nat) (args : Array Value) (ds gs : List (DataW H)) (before : List MemPlace)
    (hval : ∀ (j : Nat) t v, Try.f7.params[j]? = some t → args[j]? = some v → Value.okWide Try.prog W .any base t v)
    (hW : DataW.Whole enc Try.prog Try.f7.params.toList Rows.tokPartsSpec.vars false W args.toList ds gs before) :
    Calls Try.prog 7 args W fun e W' => ∃ v, e = .returned v ∧ Rows.tokPartsSpec.post enc Try.prog Try.f7 false true false false W args v W' := by
  have hW' := hW
  obtain ⟨p, q, hA0, hV, rfl, hfz, hnd⟩ := hW
  have hA : DataW.TrodAll enc Try.prog W 0 (fun _ => true) true Try.f7.params.toList args.toList ds p := hA0
  rw [Try.params7] at hA hval
  obtain ⟨v0, vs0, d0, ds0, p0, q0, hargs, rfl, rfl, h0, r0⟩ := trodAll_cons hA
  obtain ⟨v1, vs1, d1, ds1, p1, q1, rfl, rfl, rfl, h1, r1⟩ := trodAll_cons r0
  obtain ⟨v2, vs2, d2, ds2, p2, q2, rfl, rfl, rfl, h2, r2⟩ := trodAll_cons r1
  obtain ⟨rfl, rfl, rfl⟩ := trodAll_nil r2
  obtain rfl : args = #[v0, v1, v2] := by cases args; simp_all
  obtain ⟨rfl, rfl⟩ := trodVars_none hV
  have k0 := h0
  have lt0 : ∀ x ∈ p0, x.block < W.heap.size := by obtain ⟨m, hm⟩ := k0; exact DataW.trod_lt m _ _ _ hm
  obtain ⟨a0, e0, _, _⟩ := open_bool Try.underlying4 (hval 0 4 v0 rfl rfl) h0
  subst e0
  have k1 := h1
  have lt1 : ∀ x ∈ p1, x.block < W.heap.size := by obtain ⟨m, hm⟩ := k1; exact DataW.trod_lt m _ _ _ hm
  obtain ⟨A1, n1, c1, e1⟩ := okWide_slice Try.underlying27 (hval 1 27 v1 rfl rfl)
  subst e1
  obtain ⟨l1, w1⟩ := open_argB Try.underlying27 Try.underlying5 (by kernel_rfl) h1
  have k2 := h2
  have lt2 : ∀ x ∈ p2, x.block < W.heap.size := by obtain ⟨m, hm⟩ := k2; exact DataW.trod_lt m _ _ _ hm
  obtain ⟨A2, n2, c2, e2⟩ := okWide_slice Try.underlying27 (hval 2 27 v2 rfl rfl)
  subst e2
  obtain ⟨l2, w2⟩ := open_argB Try.underlying27 Try.underlying5 (by kernel_rfl) h2
  clear hA0
  refine (tokParts_walk a0 A1 n1 c1 l1 A2 n2 c2 l2 W w1 w2).mono fun e W' ⟨he, bel⟩ => ?_
  subst he
  exact ⟨_, rfl, _, _, _, [], _, [], hW', trodAll_mk1 (shut_bool Try.underlying4 _), (trodAll_cons_mk (Below.trod laidOut (by kernel_rfl) (of_decide_eq_true (by kernel_rfl)) k0 bel lt0) (trodAll_cons_mk (Below.trod laidOut (by kernel_rfl) (of_decide_eq_true (by kernel_rfl)) k1 bel lt1) (trodAll_cons_mk (Below.trod laidOut (by kernel_rfl) (of_decide_eq_true (by kernel_rfl)) k2 bel lt2) trodAll_mk0))), rfl, bel.frame _, fun h => by cases h⟩

set_option maxRecDepth 100000 in
theorem lifted (os : Os) (started : os.Started) (H : Type) (enc : TypeId × Value → H) :
    ReturnsInHanded {} Try.checked os 7 .any (Rows.tokPartsSpec.pre6 enc Try.prog Try.f7 Rows.tokPartsRow.domain false) (Rows.tokPartsSpec.post enc Try.prog Try.f7 false true false false) := by
  refine returnsInHanded_of_change (C := Try.checked) own started (by kernel_rfl) Try.func7
    (ChangeSpec.witness6 (enc := enc) (C := Try.checked) false ⟨#[], #[.bool false, .slice none 0 0, .slice none 0 0], []⟩ 8 (by kernel_rfl) (by kernel_rfl) (by kernel_rfl) (by kernel_rfl)) ?_
  intro W base args ds gs before hval hW _ _
  exact contract H enc W base args ds gs before hval hW

/-- The statement. -/
theorem proved : Rows.TokPartsSaid :=
  OpenClaim.holds_of_wide 7 Try.f7 rfl rfl rfl rfl rfl rfl rfl ⟨rfl, rfl, rfl, rfl, rfl⟩ rfl rfl rfl rfl rfl (by kernel_rfl) Try.func7 (by kernel_rfl)
    (of_decide_eq_true (by kernel_rfl)) (by unfold Func.isWrapper; first | (rw [if_pos (by decide +kernel)]; kernel_rfl) | (rw [if_neg (by decide +kernel)]; exact ⟨rfl, rfl⟩))
    (fun os started H enc _ => lifted os started H enc)

end Go.Proofs.Ytjhadoglcmhloaa.tokPartsP
