/-
  Words and contracts that the proof leans on.
-/
import Derived.Test.YthpinbmimgojnaaM17
import Derived.Test.YthpinbmimgojnaaM27
import Derived.Test.YthpinbmimgojnaaM13
namespace Go.Proofs.Ythpinbmimgojnaa
open Go.RowKit

/-- A point of the way back, and the pairs behind it. -/
structure BkB (x y : List Int) (k i j : Nat) (M : List Pr) : Prop where
  hi : i ≤ x.length
  hj : j ≤ y.length
  ga : Ga x y i j M.reverse
  cnt : M.length + px x y i j = lcs x y
  gd : gdB x y k i j
section
variable {x y : List Int} {k i j : Nat} {M : List Pr}
theorem BkB.start (h : dist x y ≤ k) : BkB x y k x.length y.length [] :=
  ⟨Nat.le_refl _, Nat.le_refl _, trivial, by rw [px_all]; simp, gd_end.2 h⟩
theorem BkB.same {u : Int} (h : BkB x y k (i + 1) (j + 1) M) (h1 : x[i]? = some u) (h2 : y[j]? = some u) : BkB x y k i j (M ++ [((i : Int), (j : Int))]) := by
  obtain ⟨g1, g2⟩ := gd_same h.hi h.hj h1 h2 h.gd
  refine ⟨by have := h.hi; omega, by have := h.hj; omega, ?_, ?_, g1⟩
  · rw [List.reverse_append]
    exact ⟨i, j, u, rfl, Nat.le_refl _, Nat.le_refl _, h1, h2, h.ga⟩
  · have := h.cnt
    rw [List.length_append]
    simp
    omega
theorem BkB.left (h : BkB x y k (i + 1) (j + 1) M) (g : gdB x y k (i + 1) j ∧ px x y (i + 1) (j + 1) = px x y (i + 1) j) : BkB x y k (i + 1) j M :=
  ⟨h.hi, by have := h.hj; omega, ga_mono h.ga (Nat.le_refl _) (by omega), by rw [← g.2]; exact h.cnt, g.1⟩
theorem BkB.up (h : BkB x y k (i + 1) (j + 1) M) (g : gdB x y k i (j + 1) ∧ px x y (i + 1) (j + 1) = px x y i (j + 1)) : BkB x y k i (j + 1) M :=
  ⟨by have := h.hi; omega, h.hj, ga_mono h.ga (by omega) (Nat.le_refl _), by rw [← g.2]; exact h.cnt, g.1⟩
theorem BkB.done (h : BkB x y k i j M) (h0 : i = 0 ∨ j = 0) : goodB x y M.reverse = true ∧ M.reverse.length = lcs x y := by
  refine ⟨good_iff.2 (ga_mono h.ga (Nat.zero_le _) (Nat.zero_le _)), ?_⟩
  have := h.cnt
  rw [List.length_reverse]
  rcases h0 with rfl | rfl
  · rw [px_zero_left] at this; omega
  · rw [px_zero_right] at this; omega
theorem BkB.len (h : BkB x y k i j M) : M.length ≤ lcs x y := by have := h.cnt; omega
end

/-- A row of the ways in block R. -/
def WyR (x y : List Int) (k L H m q R : Nat) (w : World) : Prop := ∃ f, BitR R (nwR L H m (q + 1)) (-((fsJ L (q + 1) : Nat) : Int)) f w ∧ WyF x y k L H q (lsJ H m (q + 1)) f
/-- The ways in memory. -/
def WysR (x y : List Int) (k L H m P g o : Nat) (w : World) : Prop :=
  ∀ q, q < P → ∃ R, w.cell? ⟨g, o + q, none⟩ = some (.slice (some ⟨R, 0, none⟩) (nwR L H m (q + 1)) (nwR L H m (q + 1))) ∧ WyR x y k L H m q R w
theorem WyR.kept {x y : List Int} {k L H m q R : Nat} {w w' : World} {S : Nat → Prop} (h : WyR x y k L H m q R w) (hk : Kp S w w') (hR : ¬ S R) : WyR x y k L H m q R w' := by
  obtain ⟨f, h1, h2⟩ := h
  exact ⟨f, h1.kept hk hR, h2⟩
theorem WyR.lt {x y : List Int} {k L H m q R : Nat} {w : World} (h : WyR x y k L H m q R w) : R < w.heap.size := by
  obtain ⟨f, h1, h2⟩ := h
  exact h1.lt
theorem WysR.below {x y : List Int} {k L H m P g o : Nat} {w w' : World} (h : WysR x y k L H m P g o w) (hb : Below w.heap.size w w') : WysR x y k L H m P g o w' := fun q hq => by
  obtain ⟨R, h1, h2⟩ := h q hq
  exact ⟨R, (Kp.of_below (fun _ => False) hb).cell h1 id, h2.kept (Kp.of_below (fun _ => False) hb) id⟩

/-- The head of a round. -/
def BbRel (x y : List Int) (k : Nat) (w : World) (i j v : Value) (wr : World) : Prop :=
  ∃ (M : List Pr) (a b : Nat), i = .int .i64 (a : Int) ∧ j = .int .i64 (b : Int) ∧ Hid (BkB x y k a b M) ∧ wr.ownsRow w.heap.size 50 2 v M.length (pv M) ∧ Below w.heap.size w wr
/-- What back leaves. -/
def BbMade (x y : List Int) (w : World) (e : Ending) (w' : World) : Prop := ∃ l, (goodB x y l = true ∧ l.length = lcs x y) ∧ MadeP l w e w'

set_option maxRecDepth 100000 in
set_option maxHeartbeats 3200000 in
theorem bback_any (A B : Option Addr) (n m c d k F G g o P cw : Nat) (gt : Nat → Int) (x y : List Int) (w : World) (hx : x.length = n) (hy : y.length = m) (hn : n ≤ 1048576) (hm : m ≤ 1048576) (hk : apN n m ≤ k) (hd : dist x y ≤ k) (h1 : Row w A (iv x)) (h2 : Row w B (iv y))
    (h : SrO A B n m c d (sdL n m k) (sdH n m k) F G n gt w) (hr : RwI x y k (sdL n m k) (sdH n m k) n gt) (hP : n ≤ P) (hw : WysR x y k (sdL n m k) (sdH n m k) m n g o w) :
    Calls Try.prog 24 #[.pointer (some ⟨F, 0, none⟩), .slice (some ⟨g, o, none⟩) P cw] w (BbMade x y w) := by
  obtain ⟨i0, hi, hz0, hz1, hz2⟩ := info_parts Try.infoPair
  obtain ⟨s1, s2, s3, s4⟩ := sd_le n m k
  have hin : ∀ a b, a ≤ n → b ≤ m → gdB x y k a b → a ≤ b + sdL n m k ∧ b ≤ a + sdH n m k := fun a b q1 q2 q3 => by
    have := gd_in (by omega) (by omega) q3
    rw [hx, hy, inB_side hk q1 q2] at this
    exact of_decide_eq_true this
  generalize sdL n m k = L at *
  generalize sdH n m k = H at *
  have hE := hr.own y.length (Nat.le_refl _) (by omega) (by omega)
  rw [← hx] at hE
  have hE2 := (bdd_end hE).1 hd
  rw [hx, hy] at hE2
  obtain ⟨t, ht⟩ : ∃ t, m + L + 1 - n = t := ⟨_, rfl⟩
  rw [ht] at hE2
  have CE := Lib.hid (fun q => bend_any (h.drewN q) t ht (by omega) (by omega) (by omega) hm (by omega) (by omega))
  rw [hE2] at CE
  have hl1 := lcs_le_left x y
  have hl2 := lcs_le_right x y
  rw [hx] at hl1
  rw [hy] at hl2
  obtain ⟨C, hC⟩ : ∃ C, lcs x y = C := ⟨_, rfl⟩
  have HC := Lib.hid hC
  have hdd : dist x y = n + m - 2 * C := by unfold dist; rw [hx, hy, hC]
  rw [hC] at hl1 hl2
  rw [hdd] at CE
  obtain ⟨X, hX⟩ : ∃ X, n + m - 2 * C = X := ⟨_, rfl⟩
  rw [hX] at CE
  have e1 : (n : Int) + (m : Int) - (X : Int) = 2 * (C : Int) := by omega
  have e2 : (2 * (C : Int)) / 2 = (C : Int) := by omega
  have e3 : (2 * (C : Int)).tdiv 2 = (C : Int) := by rw [Int.tdiv_eq_ediv_of_nonneg (by omega)]; exact e2
  have c0 := h.c0
  have c1 := h.c1
  have HQ : Hid (∀ q w3 v, w3.ownsRow w.heap.size 50 2 v 0 [] → Below w.heap.size (w.drewN q) w3 → BbRel x y k w (.int .i64 (n : Int)) (.int .i64 (m : Int)) v w3) := fun q w3 v r1 r2 =>
    ⟨[], n, m, rfl, rfl, by rw [← hx, ← hy]; exact BkB.start hd, r1, (below_drewN (Below.refl _ _) q).trans r2⟩
  clear hE hE2 hX ht hdd hr hC
  go_enter Try.func24, Try.ntmps24
  go_wp2_with fail
  go_quiet (fail)
  have CE1 := Lib.hid (CE.out nq)
  have HQ1 := Lib.hid (HQ.out nq)
  have hsz : (w.drewN nq).heap.size = w.heap.size := rfl
  clear CE HQ c0 c1
  go_wp2_with fail
  refine CE1.out.mono ?_
  rintro e w2 ⟨rfl, q, rfl⟩
  clear CE1
  obtain ⟨w1, hw1⟩ : ∃ z, w.drewN nq = z := ⟨_, rfl⟩
  rw [hw1] at hsz HQ1 ⊢
  have hsz2 : (w1.drewN q).heap.size = w.heap.size := hsz
  go_wp2_with (at_make; refine wpList_make_own _ rfl _ _ 26 rfl w.heap.size 50 i0 (.agg #[.int .i64 0, .int .i64 0]) 2 Try.underlying26 hi hz0 hz1 .i64 .i64 _ C rfl rfl (by simp) (by rw [hz2]; omega) (by unfold maxLen; omega) (by rw [hsz2]; exact Nat.le_refl _) ?_)
  intro w4 hown hg4
  have HI : Hid (BbRel x y k w (.int .i64 (n : Int)) (.int .i64 (m : Int)) (.slice (some ⟨w.heap.size, 0, none⟩) 0 C) w4) := by
    have hb4 : Below w.heap.size w1 w4 := by
      have := (below_drewN (Below.refl w1.heap.size w1) q).grown hg4 (by rw [hsz2, hsz]; exact Nat.le_refl _) (fun k hk => by cases hk)
      rw [hsz] at this
      exact this
    exact HQ1.out _ _ hown hb4
  clear HQ1 hown hg4 hw1 hsz hsz2 e1 e2 e3
  go_wp2_with fail
  go_loopw [5, 6, 7] (fun i j v wr => BbRel x y k w i j v wr) (fun i j _ _ => (intOf i + intOf j).toNat)
  case atStart => exact HI.out
  case round =>
    clear HI
    obtain ⟨M, a, b, rfl, rfl, HB, hown, hbw⟩ := hrel
    have hP0 := HB.out
    have ha := hP0.hi
    have hbb := hP0.hj
    rw [hx] at ha
    rw [hy] at hbb
    have hML : M.length ≤ 1048576 := by have := hP0.len; have := HC.out; omega
    by_cases h0 : a = 0 ∨ b = 0
    · have CR := Lib.hid (rev_any w.heap.size M.length u7 M wr rfl (by omega) hown)
      have HF : Hid (∀ w', w'.ownsRow w.heap.size 50 2 u7 M.length (pv M.reverse) → wr.grownBy w' u7.ownBlock → BbMade x y w (.returned u7) w') := fun w' r1 r2 => ⟨M.reverse, hP0.done h0, u7, rfl, by rw [List.length_reverse]; exact r1, hbw.grown r2 hbw.size (fun z e => (hown.lt z e).1)⟩
      clear hown hbw hP0 HB
      rcases h0 with rfl | rfl
      all_goals
        go_wp2_with fail
        all_goals
          refine CR.out.mono ?_
          rintro e w5 ⟨rfl, r1, r2⟩
          have R := Lib.hid (HF.out w5 r1 r2)
          clear CR HF r1 r2
          go_wp2_with fail
          go_ret
          exact R.out
    obtain ⟨P', rfl⟩ : ∃ P', a = P' + 1 := ⟨a - 1, by omega⟩
    obtain ⟨Q', rfl⟩ : ∃ Q', b = Q' + 1 := ⟨b - 1, by omega⟩
    clear h0
    obtain ⟨i1, i2⟩ := hin _ _ ha hbb hP0.gd
    have hs := h.below hbw
    obtain ⟨p1, hp1⟩ : ∃ z, fsJ L (P' + 1) = z := ⟨_, rfl⟩
    have hp2 : p1 ≤ Q' + 1 ∧ 1 ≤ p1 := by unfold fsJ at hp1; omega
    have CF := Lib.hid (bfirst_any hs (P' + 1) (by omega) (by omega))
    rw [hp1] at CF
    obtain ⟨T, hT⟩ : ∃ T, Q' + 1 - p1 = T := ⟨_, rfl⟩
    have eT : (Q' : Int) + 1 - (p1 : Int) = (T : Int) := by omega
    obtain ⟨ga, oa, hA, hca⟩ := (h1.below hbw).int (k := P') (by omega)
    obtain ⟨gb, ob, hBB, hcb⟩ := (h2.below hbw).int (k := Q') (by omega)
    have HX : Hid (x[P']? = some x[P']) := List.getElem?_eq_getElem (by omega)
    have HY : Hid (y[Q']? = some y[Q']) := List.getElem?_eq_getElem (by omega)
    generalize x[P'] = u at *
    generalize y[Q'] = v at *
    have c0 := hs.c0
    have c1 := hs.c1
    rw [hA] at c0
    rw [hBB] at c1
    clear hs hA hBB
    have g1 : P' < n := by omega
    have g2 : Q' < m := by omega
    by_cases huv : u = v
    · subst huv
      have HS : Hid (BkB x y k P' Q' (M ++ [((P' : Int), (Q' : Int))])) := hP0.same HX.out HY.out
      have HO : Hid (∀ q, (wr.drewN q).ownsRow w.heap.size 50 2 u7 M.length (pv M)) := fun q => hown
      have HW : Hid (∀ q, Below w.heap.size w (wr.drewN q)) := fun q => below_drewN hbw q
      clear hP0 HB HX HY hown hbw hin h1 h2 h hw hx hy hd hk s1 s2 s3 s4 hp1 hp2 hT i1 i2 ha hbb hl1 hl2
      go_wp2_with fail
      refine CF.out.mono ?_
      rintro e w5 ⟨rfl, rfl⟩
      clear CF
      go_wp2_with fail
      go_quiet (fail)
      have hown := HO.out nq
      have hbw := HW.out nq
      clear HO HW c0 c1 hca hcb
      generalize w5.drewN nq = wq at *
      have HN : Hid (∀ v' w', w'.ownsRow w.heap.size 50 2 v' (M.length + 1) (pv M ++ [.int .i64 (P' : Int), .int .i64 (Q' : Int)]) → (wq.alloc (.cells #[.int .i64 (P' : Int), .int .i64 (Q' : Int)] 50)).grownBy w' u7.ownBlock → BbRel x y k w (.int .i64 (P' : Int)) (.int .i64 (Q' : Int)) v' w') := fun v' w' r1 r2 =>
        ⟨M ++ [((P' : Int), (Q' : Int))], P', Q', rfl, rfl, HS, by rw [pv_append, List.length_append]; exact r1, (hbw.alloc hbw.size _).grown r2 (by have := hbw.size; simp; omega) (fun z e => (hown.lt z e).1)⟩
      have hsz := hbw.size
      clear hbw HS
      go_wp2_with (at_builtin; refine wpList_append_own _ rfl (.tmp 62) (.tmp 66) 26 rfl w.heap.size 50 i0 (.agg #[.int .i64 0, .int .i64 0]) 2 16 Try.underlying26 hi hz0 hz1 hz2 rfl (by decide) _ _ _ rfl (hown.alloc _) ⟨wq.heap.size, 0, none⟩ 1 1 [.int .i64 (P' : Int), .int .i64 (Q' : Int)] rfl rfl (pair_new wq _ _ _) (one_pair _ _) (by unfold maxLen; omega) (by omega) (by simp; omega) ?_)
      intro v' w3 hown' hg' _
      have R := Lib.hid (HN.out v' w3 hown' hg')
      clear hown' hg' hown HN
      go_wp2_with fail
      go_roundw
      case rel => first | exact R.out | ((repeat apply Exists.intro); exact ⟨R.out, rfl⟩)
      case measure => simp [intOf]; omega
    · have hz : (u == v) = false := by simpa using huv
      obtain ⟨R, r1, f, ⟨W, b1, b2, b3⟩, r3⟩ := hw.below hbw P' (by omega)
      have r4 := r3 Q' u v (by unfold lsJ; omega) (by omega) (by omega) (by omega) HX.out HY.out huv hP0.gd
      obtain ⟨Y, hY⟩ : ∃ z, T / 64 = z := ⟨_, rfl⟩
      obtain ⟨r, hr⟩ : ∃ z, T % 64 = z := ⟨_, rfl⟩
      have hTn : T < 64 * nwR L H m (P' + 1) := by unfold nwR lsJ; rw [hp1]; omega
      have hb := b3 T hTn
      rw [hY, hr, hp1, show (T : Int) - -(p1 : Int) = ((Q' + 1 : Nat) : Int) by omega] at hb
      have h64 : r < 64 := by omega
      obtain ⟨N, hN⟩ : ∃ z, nwR L H m (P' + 1) = z := ⟨_, rfl⟩
      rw [hN] at r1 b1 hTn
      have hYN : Y < N := by omega
      have hNb : N ≤ 1048576 := by rw [← hN]; unfold nwR lsJ; omega
      have c2 := World.rowIs.cell b1 hYN
      have HT := bit_test (W Y) r (b2 Y)
      rw [hb] at HT
      have y1 : (T : Int) / 64 = (Y : Int) := by omega
      have y2 : (T : Int) % 64 = (r : Int) := by omega
      have y3 : (T : Int).tdiv 64 = (Y : Int) := by rw [Int.tdiv_eq_ediv_of_nonneg (by omega)]; exact y1
      have y4 : (T : Int).tmod 64 = (r : Int) := by rw [Int.tmod_eq_emod_of_nonneg (by omega)]; exact y2
      have hTb : T ≤ 2097152 := by omega
      have hPP : P' < P := by omega
      have HL1 : Hid (f ((Q' + 1 : Nat) : Int) = true → BkB x y k (P' + 1) Q' M) := fun e => hP0.left (r4.1 e)
      have HL2 : Hid (f ((Q' + 1 : Nat) : Int) = false → BkB x y k P' (Q' + 1) M) := fun e => hP0.up (r4.2 e)
      have HN : Hid (∀ q i j, BkB x y k i j M → BbRel x y k w (.int .i64 (i : Int)) (.int .i64 (j : Int)) u7 (wr.drewN q)) := fun q i j g2 => ⟨M, i, j, rfl, rfl, g2, hown, below_drewN hbw q⟩
      clear b1 b2 b3 r3 r4 hb hP0 HB HX HY hown hbw hin h1 h2 h hw hx hy hd hk s1 s2 s3 s4 hp1 hp2 hT i1 i2 ha hbb hl1 hl2 huv hN hTn hY hr
      generalize W Y = wv at *
      cases hac : f ((Q' + 1 : Nat) : Int) with
      | true =>
        rw [hac] at HT
        have R5 := Lib.hid (fun q => HN.out q _ _ (HL1.out hac))
        clear HL1 HL2 HN hac
        go_wp2_with fail
        refine CF.out.mono ?_
        rintro e w5 ⟨rfl, rfl⟩
        clear CF
        go_wp2_with fail
        go_quiet (fail)
        have R6 := Lib.hid (R5.out nq)
        have k1 : (w5.drewN nq).cell? ⟨g, o + P', none⟩ = some (.slice (some ⟨R, 0, none⟩) N N) := r1
        have k2 : (w5.drewN nq).cell? ⟨R, Y, none⟩ = some (.int .u64 (wv : Int)) := c2
        clear R5 c0 c1 hca hcb r1 c2
        generalize w5.drewN nq = wq at *
        go_wp2_with fail
        go_roundw
        case rel => first | exact R6.out | ((repeat apply Exists.intro); exact ⟨R6.out, rfl⟩)
        case measure => simp [intOf]; omega
      | false =>
        rw [hac] at HT
        have R5 := Lib.hid (fun q => HN.out q _ _ (HL2.out hac))
        clear HL1 HL2 HN hac
        go_wp2_with fail
        refine CF.out.mono ?_
        rintro e w5 ⟨rfl, rfl⟩
        clear CF
        go_wp2_with fail
        go_quiet (fail)
        have R6 := Lib.hid (R5.out nq)
        have k1 : (w5.drewN nq).cell? ⟨g, o + P', none⟩ = some (.slice (some ⟨R, 0, none⟩) N N) := r1
        have k2 : (w5.drewN nq).cell? ⟨R, Y, none⟩ = some (.int .u64 (wv : Int)) := c2
        clear R5 c0 c1 hca hcb r1 c2
        generalize w5.drewN nq = wq at *
        go_wp2_with fail
        go_roundw
        case rel => first | exact R6.out | ((repeat apply Exists.intro); exact ⟨R6.out, rfl⟩)
        case measure => simp [intOf]; omega

end Go.Proofs.Ythpinbmimgojnaa
