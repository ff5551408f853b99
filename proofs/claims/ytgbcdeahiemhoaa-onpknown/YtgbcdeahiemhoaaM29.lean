/-
  Words and contracts that the proof leans on.
-/
import Derived.Test.YtgbcdeahiemhoaaM25
import Derived.Test.YtgbcdeahiemhoaaM28
namespace Go.Proofs.Ytgbcdeahiemhoaa
open Go.RowKit

theorem bk_alike {a b : List Int} {i j t : Nat} (hi : i ≤ a.length) (hj : j ≤ b.length) (ht : t < bkN a b i j) : ∃ u, a[i - t - 1]? = some u ∧ b[j - t - 1]? = some u := by
  have hl := bkN_le a b i j
  by_cases h : ∃ u, a[i - t - 1]? = some u ∧ b[j - t - 1]? = some u
  · exact h
  · exfalso
    have : bkN a b i j = t := bk_stop hi hj (show t ≤ bkN a b i j by omega) (fun _ _ x y h1 h2 e => h ⟨x, h1, by rw [h2, e]⟩)
    omega
theorem bk_other {a b : List Int} {i j : Nat} (hi : i ≤ a.length) (hj : j ≤ b.length) (h1 : bkN a b i j < i) (h2 : bkN a b i j < j) : ∃ u v, a[i - bkN a b i j - 1]? = some u ∧ b[j - bkN a b i j - 1]? = some v ∧ u ≠ v := by
  refine ⟨_, _, List.getElem?_eq_getElem (by omega), List.getElem?_eq_getElem (by omega), fun e => ?_⟩
  have := bk_more (x := a[i - bkN a b i j - 1]'(by omega)) hi hj (show BkTo a b i j (bkN a b i j) from Nat.le_refl _) h1 h2 (List.getElem?_eq_getElem (by omega)) (by rw [e]; exact List.getElem?_eq_getElem (by omega))
  unfold BkTo at this
  omega

/-- A point of the way back, and the pairs behind it. -/
structure BkP (x y : List Int) (W : Nat) (i j p : Nat) (M : List Pr) : Prop where
  hi : i ≤ x.length
  hj : j ≤ y.length
  bth : Bth x y W (p : Int) i j M.reverse
  cost : cst x y W i j ≤ p
  len : M.length + i ≤ x.length
section
variable {x y : List Int} {W i j p : Nat} {M : List Pr}
theorem BkP.start (hW : x.length + W = y.length) : BkP x y W x.length y.length (x.length - lcs x y) [] := by
  refine ⟨Nat.le_refl _, Nat.le_refl _, bth_start hW, ?_, by simp⟩
  have h := (fr_end (x := x) (y := y) (W := W) (p := ((x.length - lcs x y : Nat) : Int)) hW).2 (Int.le_refl _)
  rcases fr_is x y W ((x.length - lcs x y : Nat) : Int) W with e | ⟨i, j, h1, h2, h3, h4, h5⟩
  · omega
  · obtain rfl : j = y.length := by omega
    obtain rfl : i = x.length := by omega
    omega
theorem BkP.same {u : Int} (h : BkP x y W (i + 1) (j + 1) p M) (h1 : x[i]? = some u) (h2 : y[j]? = some u) : BkP x y W i j p (M ++ [((i : Int), (j : Int))]) := by
  refine ⟨by have := h.hi; omega, by have := h.hj; omega, ?_, Nat.le_trans (cst_diag x y W i j) h.cost, ?_⟩
  · rw [List.reverse_append]
    exact bth_same h.bth h1 h2
  · have := h.len
    rw [List.length_append]
    simp
    omega
theorem BkP.done (h : BkP x y W i j p M) (h0 : i = 0 ∨ j = 0) : goodB x y M.reverse = true ∧ M.reverse.length = lcs x y := by
  have hc := h.cost
  unfold cst at hc
  rcases h0 with rfl | rfl
  · exact bth_end h.bth (by omega)
  · refine bth_end' h.bth ?_
    rw [px_zero_right] at hc
    omega
theorem BkP.diag (h : BkP x y W i j p M) : -(p : Int) ≤ (j : Int) - i ∧ (j : Int) - i ≤ (W : Int) + p := by
  have h1 := cst_ge x y W i j
  have h2 := h.cost
  omega
theorem BkP.left {u v : Int} (h : BkP x y W (i + 1) (j + 1) p M) (hu : x[i]? = some u) (hv : y[j]? = some v) (hne : u ≠ v) (hb : acB x y W (p : Int) ((j : Int) - i) = true) : ∃ p', p' ≤ p ∧ (p' : Int) = (if (W : Int) < (j : Int) - i then (p : Int) - 1 else p) ∧ BkP x y W (i + 1) j p' M := by
  have h1 := ac_yes (x := x) (y := y) (W := W) (p := (p : Int)) (by have := h.cost; omega) h.hi h.hj hu hv hne hb
  by_cases hk : (j : Int) - i ≤ W
  · rw [if_pos hk] at h1
    exact ⟨p, Nat.le_refl _, by rw [if_neg (by omega)], h.hi, by have := h.hj; omega, bth_left h.bth (.inr ⟨by omega, Int.le_refl _⟩), by omega, h.len⟩
  · rw [if_neg hk] at h1
    obtain ⟨p', rfl⟩ : ∃ p', p = p' + 1 := ⟨p - 1, by omega⟩
    exact ⟨p', by omega, by rw [if_pos (by omega)]; simp, h.hi, by have := h.hj; omega, bth_left h.bth (.inl (by simp)), by omega, h.len⟩
theorem BkP.up {u v : Int} (h : BkP x y W (i + 1) (j + 1) p M) (hu : x[i]? = some u) (hv : y[j]? = some v) (hne : u ≠ v) (hb : acB x y W (p : Int) ((j : Int) - i) = false) : ∃ p', p' ≤ p ∧ (p' : Int) = (if (j : Int) - i < (W : Int) then (p : Int) - 1 else p) ∧ BkP x y W i (j + 1) p' M := by
  have h1 := ac_no (x := x) (y := y) (W := W) (p := (p : Int)) (by have := h.cost; omega) h.hi h.hj hu hv hne hb
  by_cases hk : (j : Int) - i < W
  · rw [if_pos hk] at h1
    obtain ⟨p', rfl⟩ : ∃ p', p = p' + 1 := ⟨p - 1, by omega⟩
    exact ⟨p', by omega, by rw [if_pos hk]; simp, by have := h.hi; omega, h.hj, bth_up h.bth (.inl (by simp)), by omega, by have := h.len; omega⟩
  · rw [if_neg hk] at h1
    exact ⟨p, Nat.le_refl _, by rw [if_neg hk], by have := h.hi; omega, h.hj, bth_up h.bth (.inr ⟨by omega, Int.le_refl _⟩), by omega, by have := h.len; omega⟩
end

/-- The ways in memory. -/
def WaysR (x y : List Int) (W L g o : Nat) (w : World) : Prop :=
  ∀ q, q < L → ∃ R, w.cell? ⟨g, o + q, none⟩ = some (.slice (some ⟨R, 0, none⟩) ((W + 2 * q + 1) / 64 + 1) ((W + 2 * q + 1) / 64 + 1)) ∧ WayR x y W q R w
theorem WaysR.below {x y : List Int} {W L g o : Nat} {w w' : World} (h : WaysR x y W L g o w) (hb : Below w.heap.size w w') : WaysR x y W L g o w' := fun q hq => by
  obtain ⟨R, h1, h2⟩ := h q hq
  exact ⟨R, (Kp.of_below (fun _ => False) hb).cell h1 id, h2.kept (Kp.of_below (fun _ => False) hb) id⟩

/-- The head of a round. -/
def BkRel (x y : List Int) (W R : Nat) (w : World) (v i j p : Value) (wr : World) : Prop :=
  ∃ (M : List Pr) (a b q : Nat), i = .int .i64 (a : Int) ∧ j = .int .i64 (b : Int) ∧ p = .int .i64 (q : Int) ∧ q ≤ R ∧ Hid (BkP x y W a b q M) ∧ wr.ownsRow w.heap.size 56 2 v M.length (pv M) ∧ Below w.heap.size w wr
def BkIn (x y : List Int) (W i0 j0 q D : Nat) (w : World) (v i j t : Value) (wr : World) : Prop :=
  ∃ (M : List Pr) (k : Nat), t = .int .i64 (k : Int) ∧ i = .int .i64 ((i0 - k : Nat) : Int) ∧ j = .int .i64 ((j0 - k : Nat) : Int) ∧ k ≤ D ∧ Hid (BkP x y W (i0 - k) (j0 - k) q M) ∧ wr.ownsRow w.heap.size 56 2 v M.length (pv M) ∧ Below w.heap.size w wr
/-- What back leaves. -/
def BkMade (x y : List Int) (w : World) (e : Ending) (w' : World) : Prop := ∃ l, (goodB x y l = true ∧ l.length = lcs x y) ∧ MadeP l w e w'

set_option maxRecDepth 100000 in
set_option maxHeartbeats 3200000 in
theorem back_any (A B : Option Addr) (n m c d W F G g o L cw : Nat) (gt : Nat → Int) (x y : List Int) (w : World) (hx : x.length = n) (hy : y.length = m) (hb : n ≤ 1048576) (hb' : m ≤ 1048576) (hW : n + W = m) (h1 : Row w A (iv x)) (h2 : Row w B (iv y))
    (h : FrO A B n m c d W F G ((n - lcs x y : Nat) : Int) gt w) (hL : n - lcs x y < L) (hw : WaysR x y W L g o w) :
    Calls Try.prog 32 #[.pointer (some ⟨F, 0, none⟩), .slice (some ⟨g, o, none⟩) L cw] w (BkMade x y w) := by
  obtain ⟨i0, hi, hz0, hz1, hz2⟩ := info_parts Try.infoPair
  obtain ⟨C, hC⟩ : ∃ C, n - (n - lcs x y) = C := ⟨_, rfl⟩
  obtain ⟨R, hR⟩ : ∃ R, n - lcs x y = R := ⟨_, rfl⟩
  have HR := Lib.hid hR
  rw [hR] at h hL hC
  have eC : (n : Int) - (R : Int) = (C : Int) := by omega
  obtain ⟨w1, hmk, hown, hgr⟩ := run_make_own (P := Try.prog) (w := w.drew) w.heap.size 31 56 i0 (.agg #[.int .i64 0, .int .i64 0]) 2 Try.underlying31 hi hz0 hz1 .i64 .i64 C (by rw [hz2]; omega) (by unfold maxLen; omega) (by simp)
  have hb1 : Below w.heap.size w w1 := (below_drew (Below.refl _ _)).grown hgr (by simp) (fun k hk => by cases hk)
  have c0 := h.c0
  have c1 := h.c1
  have c3 := h.c3
  have hx' := Lib.hid hx
  have hy' := Lib.hid hy
  have hRn : R ≤ n := by omega
  clear hR hC
  go_enter Try.func32, Try.ntmps32
  go_wp2_with fail
  go_region
  have h' := h.below hb1
  have c0' := h'.c0
  have c1' := h'.c1
  have c3' := h'.c3
  have HI0 : Hid (∀ q, BkRel x y W R w (.slice (some ⟨w.heap.size, 0, none⟩) 0 C) (.int .i64 (n : Int)) (.int .i64 (m : Int)) (.int .i64 (R : Int)) (w1.drewN q)) := fun q => by
    have hs := BkP.start (x := x) (y := y) (W := W) (by rw [hx, hy]; exact hW)
    rw [hx, hy, HR.out] at hs
    exact ⟨[], n, m, R, rfl, rfl, rfl, Nat.le_refl _, hs, hown, below_drewN hb1 q⟩
  clear hmk hown hgr c0 c1 c3 h'
  go_wp2_with fail
  go_quiet (fail)
  have HI1 := Lib.hid (HI0.out nq)
  clear HI0 c0' c1' c3' hb1
  generalize w1.drewN nq = wy at *
  go_wp2_with fail
  go_loopw [5, 6, 7, 8] (fun v i j p wr => BkRel x y W R w v i j p wr) (fun _ i j _ _ => (intOf i + intOf j).toNat)
  case atStart => exact HI1.out
  case round =>
    clear HI1
    obtain ⟨M, a, b, p, rfl, rfl, rfl, hpR, HB, hown, hbw⟩ := hrel
    have hP := HB.out
    have ha := hP.hi
    have hbb := hP.hj
    rw [hx] at ha
    rw [hy] at hbb
    have hf := h.below hbw
    have c0 := hf.c0
    have c1 := hf.c1
    have HU := Lib.hid (fun q => up_in A B n m c d a b x y (wr.drewN q) hx hy hb hb' ((h1.below hbw).drewN q) ((h2.below hbw).drewN q) ha hbb)
    have HUQ : Hid (∀ q, Calls Try.prog 37 #[.slice A n c, .slice B m d, .int .i64 (a : Int), .int .i64 (b : Int)] (wr.drewN q) fun e w'' => e = .returned (.int .i64 (bkN x y a b : Nat)) ∧ ∃ k, w'' = wr.drewN k) := fun q => (HU.out q).mono fun e w'' ⟨e1, z, e2⟩ => ⟨e1, q + z, by rw [e2, World.drewN_drewN]⟩
    have hle := bkN_le x y a b
    have HAl := Lib.hid (fun t (ht : t < bkN x y a b) => bk_alike (a := x) (b := y) hP.hi hP.hj ht)
    have HOt := Lib.hid (fun h1 h2 => bk_other (a := x) (b := y) hP.hi hP.hj h1 h2)
    have HK : Hid (∀ q, BkIn x y W a b p (bkN x y a b) w u5 (.int .i64 (a : Int)) (.int .i64 (b : Int)) (.int .i64 0) (wr.drewN q)) := fun q => ⟨M, 0, rfl, rfl, rfl, Nat.zero_le _, HB, hown, below_drewN hbw q⟩
    clear HU hP HB hown hf
    generalize bkN x y a b = D at *
    go_wp2_with fail
    go_quiet ((go_at_call 37; exact HUQ.out _))
    have HK1 := Lib.hid (HK.out nq)
    clear HK HUQ c0 c1 hbw
    generalize wr.drewN nq = wb at *
    go_wp2_with fail
    go_loopw [5, 6, 7, 46] (fun v i j t wr => BkIn x y W a b p D w v i j t wr) (fun _ _ _ t _ => D - (intOf t).toNat)
    case atStart => exact HK1.out
    case round =>
      clear HK1
      obtain ⟨M, k, rfl, rfl, rfl, hk, HB, hown, hbw⟩ := hrel
      have hP := HB.out
      have hlen := hP.len
      have hai := hP.hi
      have hbj := hP.hj
      rw [hx] at hlen hai
      rw [hy] at hbj
      have hsz := hbw.size
      by_cases hkD : k < D
      · obtain ⟨P, hPe⟩ : ∃ P, a - k = P + 1 := ⟨a - k - 1, by omega⟩
        obtain ⟨Q, hQe⟩ : ∃ Q, b - k = Q + 1 := ⟨b - k - 1, by omega⟩
        obtain ⟨u, q1, q2⟩ := HAl.out k hkD
        rw [show a - k - 1 = P by omega] at q1
        rw [show b - k - 1 = Q by omega] at q2
        rw [hPe, hQe] at hP
        rw [hPe] at hlen hai
        rw [hQe] at hbj
        have HS : Hid (BkP x y W (a - (k + 1)) (b - (k + 1)) p (M ++ [((P : Int), (Q : Int))])) := by
          show BkP _ _ _ _ _ _ _
          rw [show a - (k + 1) = P by omega, show b - (k + 1) = Q by omega]
          exact hP.same q1 q2
        have HN : Hid (∀ v' w', w'.ownsRow w.heap.size 56 2 v' (M.length + 1) (pv M ++ [.int .i64 (P : Int), .int .i64 (Q : Int)]) → (wr.alloc (.cells #[.int .i64 (P : Int), .int .i64 (Q : Int)] 56)).grownBy w' u5.ownBlock → BkIn x y W a b p D w v' (.int .i64 (P : Int)) (.int .i64 (Q : Int)) (.int .i64 ((k + 1 : Nat) : Int)) w') := fun v' w' r1 r2 =>
          ⟨M ++ [((P : Int), (Q : Int))], k + 1, rfl, by rw [show a - (k + 1) = P by omega], by rw [show b - (k + 1) = Q by omega], hkD, HS, by rw [pv_append, List.length_append]; exact r1, (hbw.alloc hsz _).grown r2 (by simp; omega) (fun z e => (hown.lt z e).1)⟩
        have hM : M.length ≤ 1048576 := by omega
        rw [hPe, hQe]
        clear hP HB HS q1 q2 hPe hQe HAl HOt
        go_wp2_with (at_builtin; refine wpList_append_own _ rfl (.tmp 52) (.tmp 56) 31 rfl w.heap.size 56 i0 (.agg #[.int .i64 0, .int .i64 0]) 2 16 Try.underlying31 hi hz0 hz1 hz2 rfl (by decide) _ _ _ rfl (hown.alloc _) ⟨wr.heap.size, 0, none⟩ 1 1 [.int .i64 (P : Int), .int .i64 (Q : Int)] rfl rfl (pair_new wr _ _ _) (one_pair _ _) (by unfold maxLen; omega) (by omega) (by simp; omega) ?_)
        intro v' w3 hown' hg' _
        have R := Lib.hid (HN.out v' w3 hown' hg')
        clear hown' hg' hown HN hbw
        go_wp2_with fail
        go_roundw
        case rel => first | exact R.out | ((repeat apply Exists.intro); exact ⟨R.out, rfl⟩)
        case measure => simp [intOf]; omega
      · obtain rfl : k = D := by omega
        have HO2 := Lib.hid HOt.out
        clear HAl HOt
        have HF : Hid (∀ w', a - k = 0 ∨ b - k = 0 → w'.ownsRow w.heap.size 56 2 u5 M.length (pv M.reverse) → wr.grownBy w' u5.ownBlock → BkMade x y w (.returned u5) w') := fun w' h0 r1 r2 => ⟨M.reverse, hP.done h0, u5, rfl, by rw [List.length_reverse]; exact r1, hbw.grown r2 hsz (fun z e => (hown.lt z e).1)⟩
        have CR := Lib.hid (rev_any w.heap.size M.length u5 M wr rfl (by omega) hown)
        by_cases h0 : a - k = 0
        · have HF1 := Lib.hid (fun w' => HF.out w' (.inl h0))
          rw [h0]
          clear hP HB HO2 hown hbw HF
          go_wp2_with fail
          refine CR.out.mono ?_
          rintro e w5 ⟨rfl, r1, r2⟩
          have R := Lib.hid (HF1.out w5 r1 r2)
          clear CR HF1 r1 r2
          go_wp2_with fail
          go_ret
          exact R.out
        obtain ⟨P, hPe⟩ : ∃ P, a - k = P + 1 := ⟨a - k - 1, by omega⟩
        by_cases h0b : b - k = 0
        · have HF1 := Lib.hid (fun w' => HF.out w' (.inr h0b))
          rw [hPe, h0b]
          clear hP HB HO2 hown hbw HF h0 hPe
          go_wp2_with fail
          refine CR.out.mono ?_
          rintro e w5 ⟨rfl, r1, r2⟩
          have R := Lib.hid (HF1.out w5 r1 r2)
          clear CR HF1 r1 r2
          go_wp2_with fail
          go_ret
          exact R.out
        obtain ⟨Q, hQe⟩ : ∃ Q, b - k = Q + 1 := ⟨b - k - 1, by omega⟩
        obtain ⟨u, v, q1, q2, q3⟩ := HO2.out (by omega) (by omega)
        rw [show a - k - 1 = P by omega] at q1
        rw [show b - k - 1 = Q by omega] at q2
        rw [hPe, hQe] at hP
        rw [hPe] at hai
        rw [hQe] at hbj
        have hdg := hP.diag
        obtain ⟨κ, hκ⟩ : ∃ κ : Int, (Q : Int) - (P : Int) = κ := ⟨_, rfl⟩
        have HL1 := Lib.hid (fun h => hP.left q1 q2 q3 h)
        have HL2 := Lib.hid (fun h => hP.up q1 q2 q3 h)
        rw [hκ] at HL1 HL2
        have m1 : P + 1 ≤ a := by omega
        have m2 : Q + 1 ≤ b := by omega
        have e1 : (Q : Int) + 1 - ((P : Int) + 1) = κ := by omega
        have z1 : ((P : Int) + 1 == 0) = false := by simp; omega
        have z2 : ((Q : Int) + 1 == 0) = false := by simp; omega
        have d1 : -(p : Int) ≤ κ := by omega
        have d2 : κ ≤ (W : Int) + p := by omega
        obtain ⟨R', r1, r2⟩ := (hw.below hbw) p (by omega)
        have CA := Lib.hid (across_any x y g o L cw W p R' κ wr (by omega) (by omega) (by omega) d1 d2 r1 r2)
        have c2 := (h.below hbw).c2
        have HN : Hid (∀ i j p', p' ≤ p → BkP x y W i j p' M → BkRel x y W R w u5 (.int .i64 (i : Int)) (.int .i64 (j : Int)) (.int .i64 (p' : Int)) wr) := fun i j p' g1 g2 => ⟨M, i, j, p', rfl, rfl, rfl, by omega, g2, hown, hbw⟩
        rw [hPe, hQe]
        clear hP HB HO2 HF CR hown hbw r1 r2 q1 q2 h0 h0b hPe hQe hdg
        cases hac : acB x y W (p : Int) κ with
        | true =>
          rw [hac] at CA
          obtain ⟨p', g1, g2, g3⟩ := HL1.out hac
          have R5 := Lib.hid (HN.out _ _ p' g1 g3)
          clear HL1 HL2 HN g3 hac
          by_cases hk : (W : Int) < κ
          · rw [if_pos hk] at g2
            rw [g2] at R5
            clear g2
            go_wp2_with fail
            refine CA.out.mono ?_
            rintro e w5 ⟨rfl, rfl⟩
            clear CA
            go_wp2_with fail
            go_roundw
            case rel => first | exact R5.out | ((repeat apply Exists.intro); exact ⟨R5.out, rfl⟩)
            case measure => simp [intOf]; omega
          · rw [if_neg hk] at g2
            rw [g2] at R5
            clear g2
            go_wp2_with fail
            refine CA.out.mono ?_
            rintro e w5 ⟨rfl, rfl⟩
            clear CA
            go_wp2_with fail
            go_roundw
            case rel => first | exact R5.out | ((repeat apply Exists.intro); exact ⟨R5.out, rfl⟩)
            case measure => simp [intOf]; omega
        | false =>
          rw [hac] at CA
          obtain ⟨p', g1, g2, g3⟩ := HL2.out hac
          have R5 := Lib.hid (HN.out _ _ p' g1 g3)
          clear HL1 HL2 HN g3 hac
          by_cases hk : κ < (W : Int)
          · rw [if_pos hk] at g2
            rw [g2] at R5
            clear g2
            go_wp2_with fail
            refine CA.out.mono ?_
            rintro e w5 ⟨rfl, rfl⟩
            clear CA
            go_wp2_with fail
            go_roundw
            case rel => first | exact R5.out | ((repeat apply Exists.intro); exact ⟨R5.out, rfl⟩)
            case measure => simp [intOf]; omega
          · rw [if_neg hk] at g2
            rw [g2] at R5
            clear g2
            go_wp2_with fail
            refine CA.out.mono ?_
            rintro e w5 ⟨rfl, rfl⟩
            clear CA
            go_wp2_with fail
            go_roundw
            case rel => first | exact R5.out | ((repeat apply Exists.intro); exact ⟨R5.out, rfl⟩)
            case measure => simp [intOf]; omega

end Go.Proofs.Ytgbcdeahiemhoaa

namespace Go.Proofs.Ytgbcdeahiemhoaa
open Go.RowKit

/-- Run's function keeps its bits. -/
theorem ad_run (zr zf R F G N P W : Nat) (hN : (W + 2 * P + 1) / 64 + 1 = N) (hW : W ≤ 1048576) (hP : P ≤ 1048576) (n1 : ¬ FG F G zr) (n2 : ¬ FG F G zf) (n3 : ¬ FG F G R) :
    AdK 31 (fun k b => #[k, b, .pointer (some ⟨zr, 0, none⟩), .pointer (some ⟨zf, 0, none⟩)]) (fun k => k = R) F G W P (RnS zr zf R F N P) where
  keep h hk := ⟨hk.cell h.boxr n1, hk.cell h.boxf n2, h.bits.kept hk n3, h.ne1, h.ne2⟩
  call k v h1 h2 h hb h3 := run1_any zr zf R F N P W k v _ _ hN hW hP h1 h2 h hb h3
  tf h := n3 (.inl h.symm)
  tg h := n3 (.inr h.symm)

def wyV (W R q : Nat) : Value := .slice (some ⟨R, 0, none⟩) ((W + 2 * q + 1) / 64 + 1) ((W + 2 * q + 1) / 64 + 1)
/-- The ways so far, a row that grows. -/
structure WaysO (x y : List Int) (W hi P : Nat) (Rs : Nat → Nat) (v : Value) (w : World) : Prop where
  own : w.ownsRow hi 51 1 v P ((List.range P).map fun q => wyV W (Rs q) q)
  lo : ∀ q, q < P → hi ≤ Rs q
  way : ∀ q, q < P → WayR x y W q (Rs q) w
theorem row_not_own {w : World} {hi n R N : Nat} {v : Value} {us : List Value} {f : Nat → Value} (h : w.ownsRow hi 51 1 v n us) (hr : w.rowIs R 53 N f) : some R ≠ v.ownBlock := by
  rcases h.2 with ⟨rfl, _⟩ | ⟨g, cap, cur, rfl, _, hh, _⟩
  · simp [Value.ownBlock]
  · intro he
    have : R = g := by simpa [Value.ownBlock] using he
    subst this
    obtain ⟨c, h1, _⟩ := hr
    rw [h1] at hh
    simp only [Option.some.injEq, Obj.cells.injEq] at hh
    have := hh.2.1
    revert this
    decide
theorem own_kept {w w' : World} {hi n sz : Nat} {e : TypeId} {v : Value} {us : List Value} {S : Nat → Prop} (h : w.ownsRow hi e sz v n us) (hk : Kp S w w') (hS : ∀ k, hi ≤ k → k < w.heap.size → ¬ S k) : w'.ownsRow hi e sz v n us := by
  refine ⟨h.1, ?_⟩
  rcases h.2 with h0 | ⟨g, cap, cur, hv, hg, hh, r⟩
  · exact .inl h0
  · have hgs := (Array.getElem?_eq_some_iff.1 hh).1
    exact .inr ⟨g, cap, cur, hv, hg, by rw [hk.block g hgs (hS g hg hgs)]; exact hh, r⟩
section
variable {x y : List Int} {W hi P : Nat} {Rs : Nat → Nat} {v : Value} {w w' : World}
theorem WaysO.kept {S : Nat → Prop} (h : WaysO x y W hi P Rs v w) (hk : Kp S w w') (hS : ∀ k, hi ≤ k → k < w.heap.size → ¬ S k) : WaysO x y W hi P Rs v w' :=
  ⟨own_kept h.own hk hS, h.lo, fun q hq => (h.way q hq).kept hk (hS _ (h.lo q hq) (h.way q hq).lt)⟩
theorem WaysO.start (x y : List Int) (W hi : Nat) (w : World) : WaysO x y W hi 0 (fun _ => 0) (.slice none 0 0) w :=
  ⟨World.ownsRow_nil _ _ _ _, fun q h => absurd h (by omega), fun q h => absurd h (by omega)⟩
theorem WayR.grown {q R n : Nat} {us : List Value} {o : Obj} (h : WayR x y W q R w) (ho : w.ownsRow hi 51 1 v n us) (hg : (w.alloc o).grownBy w' v.ownBlock) : WayR x y W q R w' := by
  obtain ⟨u, u1, u2, u3⟩ := h
  exact ⟨u, (u1.alloc o).of_block (hg.block R (by have := World.rowIs.lt u1; simp; omega) (row_not_own ho u1)), u2, u3⟩
theorem WaysO.app {R : Nat} {o : Obj} {v' : Value} (h : WaysO x y W hi P Rs v w) (hR : WayR x y W P R w) (hl : hi ≤ R) (h1 : w'.ownsRow hi 51 1 v' (P + 1) (((List.range P).map fun q => wyV W (Rs q) q) ++ [wyV W R P])) (hg : (w.alloc o).grownBy w' v.ownBlock) :
    WaysO x y W hi (P + 1) (fun q => if q = P then R else Rs q) v' w' := by
  refine ⟨?_, fun q hq => ?_, fun q hq => ?_⟩
  · rw [List.range_succ, List.map_append, List.map_singleton, if_pos rfl]
    have e : ((List.range P).map fun q => wyV W (if q = P then R else Rs q) q) = (List.range P).map fun q => wyV W (Rs q) q := List.map_congr_left fun q hq => by rw [if_neg (by have := List.mem_range.1 hq; omega)]
    rw [e]
    exact h1
  · by_cases e : q = P
    · simp only [if_pos e]; exact hl
    · simp only [if_neg e]; exact h.lo q (by omega)
  · by_cases e : q = P
    · subst e
      simp only [if_pos]
      exact hR.grown h.own hg
    · simp only [if_neg e]
      exact (h.way q (by omega)).grown h.own hg
/-- To be read. -/
theorem WaysO.read (h : WaysO x y W hi P Rs v w) (hP : 0 < P) : ∃ g c, v = .slice (some ⟨g, 0, none⟩) P c ∧ WaysR x y W P g 0 w := by
  obtain ⟨g, c, rfl, _, _, _⟩ := own_posS h.own hP
  refine ⟨g, c, rfl, fun q hq => ⟨Rs q, ?_, h.way q hq⟩⟩
  have := h.own.cells (g := g) rfl q (wyV W (Rs q) q) (by rw [List.getElem?_map, List.getElem?_range hq]; rfl)
  rw [Addr.add_lit] at this
  exact this
end

theorem Kp.of_app {S : Nat → Prop} {w w' : World} {o : Obj} {b : Option Nat} (h : (w.alloc o).grownBy w' b) (hb : ∀ k, b = some k → S k) : Kp S w w' :=
  ⟨h.os, h.tape, h.output, by have := h.size; simp at this; omega, fun k hk hS => (h.block k (by simp; omega) (fun e => hS (hb k e.symm))).trans (Below.heap_alloc w o k hk)⟩
theorem Kp.alloc {S : Nat → Prop} {w w' : World} (h : Kp S w w') (o : Obj) : Kp S w (w'.alloc o) :=
  ⟨h.os, h.tape, h.output, by have := h.size; simp; omega, fun k hk hS => (Below.heap_alloc w' o k (by have := h.size; omega)).trans (h.block k hk hS)⟩

/-- What Run leaves. -/
def OrMade (a b : List Int) (w : World) (e : Ending) (w' : World) : Prop :=
  ∃ (v : Value) (l : List Pr), e = .returned (.tuple #[v, .int .i64 (stN (wdt a b) (rgt a b + 1) : Nat)]) ∧ (goodB a b l = true ∧ l.length = lcs a b) ∧ w'.ownsRow w.heap.size 56 2 v l.length (pv l) ∧ Below w.heap.size w w'

/-- Pairs that are turned in their place. -/
def tnL (l : List Pr) (k : Nat) : List Pr := turnP (l.take k) ++ l.drop k
theorem tnL_length (l : List Pr) (k : Nat) : (tnL l k).length = l.length := by unfold tnL turnP; simp; omega
theorem tnL_split {l : List Pr} {k : Nat} (h : k < l.length) : tnL l k = turnP (l.take k) ++ l[k] :: l.drop (k + 1) := by
  unfold tnL
  rw [List.drop_eq_getElem_cons h]
theorem tnL_next {l : List Pr} {k : Nat} (h : k < l.length) : tnL l (k + 1) = turnP (l.take k) ++ (l[k].2, l[k].1) :: l.drop (k + 1) := by
  unfold tnL
  rw [List.take_succ_eq_append_getElem h]
  unfold turnP
  rw [List.map_append, List.append_assoc]
  rfl
def TnRel (l : List Pr) (v : Value) (B : Nat) (w0 : World) (i : Value) (wr : World) : Prop :=
  ∃ k : Nat, k ≤ l.length ∧ i = .int .i64 (k : Int) ∧ wr.ownsRow B 56 2 v l.length (pv (tnL l k)) ∧ Below w0.heap.size w0 wr
theorem tn_next {l : List Pr} {g c B k : Nat} {w0 wr : World} (hk : k < l.length) (h : wr.ownsRow B 56 2 (.slice (some ⟨g, 0, none⟩) l.length c) l.length (pv (tnL l k))) (hb : Below w0.heap.size w0 wr) (hg : w0.heap.size ≤ g) :
    TnRel l (.slice (some ⟨g, 0, none⟩) l.length c) B w0 (.int .i64 (k + 1 : Nat)) ((wr.setCell ⟨g, k * 2, none⟩ (.int .i64 l[k].2)).setCell ⟨g, k * 2 + 1, none⟩ (.int .i64 l[k].1)) := by
  have hl : (turnP (l.take k)).length = k := by unfold turnP; simp; omega
  refine ⟨k + 1, hk, rfl, ?_, (hb.setCell hg _).setCell hg _⟩
  have h2 := own_setS (own_setS h (k * 2) (.int .i64 l[k].2)) (k * 2 + 1) (.int .i64 l[k].1)
  have e := pv_set2 (turnP (l.take k)) (l.drop (k + 1)) l[k] l[k].2 l[k].1
  rw [hl, ← tnL_split hk, ← tnL_next hk] at e
  rw [e] at h2
  exact h2
theorem tn_alloc {l : List Pr} {v : Value} {B : Nat} {w0 wr : World} {i : Value} (h : TnRel l v B w0 i wr) (o : Obj) : TnRel l v B w0 i (wr.alloc o) := by
  obtain ⟨k, h1, h2, h3, h4⟩ := h
  exact ⟨k, h1, h2, h3.alloc o, h4.alloc h4.size o⟩
theorem tn_cells {l : List Pr} {g c B k : Nat} {wr : World} (hk : k < l.length) (h : wr.ownsRow B 56 2 (.slice (some ⟨g, 0, none⟩) l.length c) l.length (pv (tnL l k))) :
    wr.cell? ⟨g, k * 2, none⟩ = some (.int .i64 l[k].1) ∧ wr.cell? ⟨g, k * 2 + 1, none⟩ = some (.int .i64 l[k].2) ∧ (∀ j, wr.frozen? ⟨g, j, none⟩ = false) := by
  have hl : (turnP (l.take k)).length = k := by unfold turnP; simp; omega
  obtain ⟨g', c', e, hf, _, _⟩ := own_posS h (by omega)
  cases e
  obtain ⟨g', o, e, h1, h2⟩ := (own_rowS h).pair (k := k) (by rw [tnL_length]; omega)
  cases e
  simp only [tnL_split hk] at h1 h2
  rw [List.getElem_append_right (by omega)] at h1 h2
  simp only [hl, Nat.sub_self, List.getElem_cons_zero, Nat.zero_add] at h1 h2
  exact ⟨h1, h2, hf⟩

/-- The head of a round: the front at cost P - 1, the ways so far. -/
def RnRel (A B : Option Addr) (n m c d W F G zf hi M R : Nat) (x y : List Int) (w0 : World) (v s : Value) (wr : World) : Prop :=
  ∃ (P S : Nat) (Rs : Nat → Nat), s = .int .i64 (S : Int) ∧ Hid (S = stN W P) ∧ P ≤ R + 1 ∧ S ≤ M ∧ FrS A B n m c d W F G P x y w0 wr ∧ wr.cell? ⟨zf, 0, none⟩ = some (.pointer (some ⟨F, 0, none⟩)) ∧ WaysO x y W hi P Rs v wr ∧ hi ≤ wr.heap.size

theorem Try.infoWay : (Try.prog.info? 51).map (fun i => (i.zero, i.size, i.bytes)) = some (some (.slice none 0 0), 1, 24) := by kernel_rfl
theorem Try.infoWord : (Try.prog.info? 53).map (fun i => (i.zero, i.size, i.bytes)) = some (some (.int .u64 0), 1, 8) := by kernel_rfl

set_option maxRecDepth 100000 in
set_option maxHeartbeats 3200000 in
theorem orun_any (A B : Option Addr) (n m c d : Nat) (a b : List Int) (w : World) (hn : a.length = n) (hm : b.length = m) (hc : n ≤ c) (hd : m ≤ d) (hb : n ≤ 1048576) (hb' : m ≤ 1048576) (h1 : Row w A (iv a)) (h2 : Row w B (iv b)) :
    Calls Try.prog 17 #[.slice A n c, .slice B m d] w (OrMade a b w) := by
  obtain ⟨i0, hi0, hz0, hz1, hz2⟩ := info_parts Try.infoWord
  obtain ⟨j0, ji, jz0, jz1, jz2⟩ := info_parts Try.infoWay
  have CO := Lib.hid (ordered_any A B n m c d a b w hn hm hc hd h1 h2)
  have hre := rgt_end a b
  have hrl := rgt_le a b
  obtain ⟨hl1, hl2, hl3, hl4, hl5⟩ := sht_len a b
  rw [hn, hm] at hl1 hl2
  have HRg : Hid ((sht a b).length - lcs (sht a b) (lng a b) = rgt a b) := by show _ = _; rw [hl4]; rfl
  have HO1 : Hid (b.length < a.length → sht a b = b ∧ lng a b = a) := fun h => sht_gt (by omega)
  have HO2 : Hid (¬ b.length < a.length → sht a b = a ∧ lng a b = b) := fun h => sht_le (by omega)
  have HL4 := Lib.hid hl4
  have HD : Hid (∀ (e : Ending) (w' : World) (S : Nat) (v : Value) (l : List Pr), S = stN (wdt a b) (rgt a b + 1) → e = .returned (.tuple #[v, .int .i64 (S : Int)]) → goodB a b l = true → l.length = lcs a b → w'.ownsRow w.heap.size 56 2 v l.length (pv l) → Below w.heap.size w w' → OrMade a b w e w') := fun e w' S v l q1 q2 q3 q4 q5 q6 => ⟨v, l, by rw [q2, q1], ⟨q3, q4⟩, q5, q6⟩
  clear h1 h2 hn hm hc hd hl4 hl5
  go_enter Try.func17, Try.ntmps17
  go_wp2_with fail
  refine CO.out.mono ?_
  rintro e w1 ⟨A', B', N, M, C, D, t, rfl, ⟨hx, hy, hc, hd, r1, r2, ht⟩, rfl⟩
  have HT := Lib.hid ht
  clear CO ht
  generalize sht a b = x at *
  generalize lng a b = y at *
  generalize wdt a b = W at *
  generalize rgt a b = R at *
  rw [hx] at hl1 hl3 hrl HRg
  rw [hy] at hl2 hl3
  have hN : N ≤ 1048576 := by omega
  have hM : M ≤ 1048576 := by omega
  have hWb : W ≤ 1048576 := by omega
  have CN := Lib.hid (newFront_any A' B' N M C D W w1 hN hM hl3)
  have HE : Hid (∀ P : Nat, frT x y W ((P : Int) - 1) (M + 1) = (M : Int) ↔ R + 1 ≤ P) := fun P => by
    have e := hre ((P : Int) - 1)
    rw [hy] at e
    unfold frT
    rw [show ((M + 1 : Nat) : Int) - x.length - 1 = (W : Int) by rw [hx]; simp; omega, e]
    omega
  have HS := Lib.hid (stN_le (W := W) (c := R + 1) (by omega) (by omega))
  have HU := Lib.hid (fun P (h : P ≤ R + 1) => stN_up W h)
  have HTn : Hid (∀ P, stN W (P + 1) = stN W P + (W + 2 * P + 1)) := fun P => by
    rw [stN_is, stN_is]
    simp only [Nat.add_mul, Nat.mul_add]
    omega
  obtain ⟨MX, hMX⟩ : ∃ z, stN W (R + 1) = z := ⟨_, rfl⟩
  have HMX := Lib.hid hMX
  rw [hMX] at HS HU HD
  have HSS := HS.out
  clear hMX hre hl1 hl2
  go_wp2_with fail
  refine CN.out.mono ?_
  rintro e w2 ⟨F, G, rfl, hF, hg1, hg2, hb2⟩
  clear CN
  go_wp2_with fail
  have hb3 : Below w1.heap.size w1 (w2.alloc (.cells #[.pointer (some ⟨F, 0, none⟩)] 41)) := hb2.alloc hb2.size _
  have HI : Hid (RnRel A' B' N M C D W F G w2.heap.size (w2.heap.size + 1) MX R x y w1 (.slice none 0 0) (.int .i64 0) (w2.alloc (.cells #[.pointer (some ⟨F, 0, none⟩)] 41))) := by
    refine ⟨0, 0, fun _ => 0, rfl, ?_, Nat.zero_le _, Nat.zero_le _, ?_, ?_, WaysO.start _ _ _ _ _, by simp⟩
    · show 0 = stN W 0
      rw [stN_is, Nat.zero_mul]
    · exact FrS.start (hF.below ((Below.refl _ _).alloc (Nat.le_refl _) _)) hb3
    · have := cell_one_new w2 (.pointer (some ⟨F, 0, none⟩)) 41 0 _ rfl
      rw [Addr.add_lit] at this
      exact this
  have hFz : ¬ FG F G w2.heap.size := fun h => by
    have q1 := hF.obj.lt
    have q2 := hF.far.lt
    rcases h with h | h <;> omega
  have hFhi : F < w2.heap.size ∧ G < w2.heap.size := ⟨hF.obj.lt, hF.far.lt⟩
  have hzl : w1.heap.size ≤ w2.heap.size := hb2.size
  clear hF hb2 hb3
  generalize w2.heap.size = zf at *
  generalize w2.alloc (.cells #[.pointer (some ⟨F, 0, none⟩)] 41) = w3 at *
  obtain ⟨hi, hhi⟩ : ∃ hi, zf + 1 = hi := ⟨_, rfl⟩
  rw [hhi] at HI
  go_loopw [10, 11] (fun v s wr => RnRel A' B' N M C D W F G zf hi MX R x y w1 v s wr) (fun _ s _ => MX - (intOf s).toNat)
  case atStart => exact HI.out
  case round =>
    clear HI
    obtain ⟨P, S, Rs, rfl, hS, hP, hSM, hf, hbz, hW, hsz⟩ := hrel
    have CA := Lib.hid (arrived_any A' B' N M C D W F G ((P : Int) - 1) _ wr hf.fro hN hM hl3)
    have he := HE.out P
    generalize frT x y W ((P : Int) - 1) (M + 1) = z at *
    by_cases hr : R + 1 ≤ P
    · obtain rfl : P = R + 1 := by omega
      rw [decide_eq_true (he.2 hr)] at CA
      obtain ⟨g, cw, rfl, hrd⟩ := hW.read (by omega)
      have hSR : Hid (S = MX) := by show S = MX; rw [hS.out, HMX.out]
      have CB : Hid (∀ q, Calls Try.prog 32 #[.pointer (some ⟨F, 0, none⟩), .slice (some ⟨g, 0, none⟩) (R + 1) cw] (wr.drewN q) (BkMade x y (wr.drewN q))) := fun q => by
        have hfq := hf.drewN q
        refine back_any A' B' N M C D W F G g 0 (R + 1) cw (frT x y W (((R + 1 : Nat) : Int) - 1)) x y (wr.drewN q) hx hy hN hM hl3 (r1.below hfq.below) (r2.below hfq.below) ?_ (by rw [HRg.out]; omega) (hrd.below (below_drewN (Below.refl _ _) q))
        have e := hfq.fro
        rw [HRg.out]
        have e1 : ((R + 1 : Nat) : Int) - 1 = (R : Int) := by simp
        rw [e1] at e ⊢
        exact e
      have HBq : Hid (∀ q, Below w1.heap.size w1 (wr.drewN q)) := fun q => below_drewN hf.below q
      have hbz' : ∀ q, (wr.drewN q).cell? ⟨zf, 0, none⟩ = some (.pointer (some ⟨F, 0, none⟩)) := fun _ => hbz
      clear hf he hr hW hrd r1 r2 HE HTn HU hS
      go_wp2_with fail
      refine CA.out.mono ?_
      rintro e w4 ⟨rfl, q, rfl⟩
      have hbq := hbz' q
      have CB1 := Lib.hid (CB.out q)
      have HB1 := Lib.hid (HBq.out q)
      clear CA CB hbz' HBq hbz
      generalize wr.drewN q = wq at *
      go_wp2_with fail
      refine CB1.out.mono ?_
      rintro e w5 ⟨l, ⟨lg, ll⟩, v, rfl, ho, hb5⟩
      obtain ⟨A1, c1, rfl, _, _, _, _⟩ := own_sliceS ho
      have hlb : l.length ≤ 1048576 := by
        rw [ll]
        have := lcs_le_left x y
        omega
      have HB5 := Lib.hid (below_go HB1.out hb5)
      have hsq := HB1.out.size
      have ho' := own_lowerS ho hsq
      rw [HL4.out] at ll
      clear CB1 HB1 hb5 ho hbq
      cases t with
      | false =>
        obtain ⟨ex, ey⟩ := HO2.out (by have := HT.out; simpa using this)
        rw [ex, ey] at lg
        have HF := Lib.hid (HD.out _ w5 S (.slice A1 l.length c1) l hSR.out rfl lg ll ho' HB5.out)
        clear HD ho' ll lg HB5 hSR HT HO1 HO2 hx hy ex ey
        go_wp2_with fail
        go_ret2
        exact HF.out
      | true =>
        obtain ⟨ex, ey⟩ := HO1.out (by have := HT.out; simpa using this)
        rw [ex, ey] at lg
        have HI2 : Hid (TnRel l (.slice A1 l.length c1) w1.heap.size w1 (.int .i64 0) w5) := ⟨0, Nat.zero_le _, rfl, ho', HB5.out⟩
        have HD2 : Hid (∀ w', TnRel l (.slice A1 l.length c1) w1.heap.size w1 (.int .i64 (l.length : Int)) w' → OrMade a b w1 (.returned (.tuple #[.slice A1 l.length c1, .int .i64 (S : Int)])) w') := fun w' ⟨k, _, q2, q3, q4⟩ => by
          obtain rfl : l.length = k := by injection q2; omega
          have e : tnL l l.length = turnP l := by unfold tnL; rw [List.take_length, List.drop_length, List.append_nil]
          rw [e] at q3
          have e2 : (turnP l).length = l.length := by unfold turnP; simp
          exact HD.out _ w' S _ (turnP l) hSR.out rfl (by rw [good_turn]; exact lg) (by rw [e2, ll]) (by rw [e2]; exact q3) q4
        clear HD ho' lg ll HB5 hSR HT HO1 HO2 hx hy
        go_wp2_with fail
        go_loopw [49] (fun i wr => TnRel l (.slice A1 l.length c1) w1.heap.size w1 i wr) (fun i _ => l.length - (intOf i).toNat)
        case atStart => exact HI2.out
        case round =>
          clear HI2
          obtain ⟨k, hk, rfl, hown, hbw⟩ := hrel
          by_cases hlt : k < l.length
          · obtain ⟨g0, c0, e0, _, hg0, hg0'⟩ := own_posS hown (by omega)
            have e1 : A1 = some ⟨g0, 0, none⟩ := by injection e0
            subst e1
            obtain ⟨f1, f2, f3⟩ := tn_cells hlt hown
            have f4 := f3 (k * 2)
            have f5 := f3 (k * 2 + 1)
            have R3 := Lib.hid (fun o => tn_alloc (tn_next hlt hown hbw hg0) o)
            clear hown hbw f3 e0
            generalize l[k] = z at *
            obtain ⟨z1, z2⟩ := z
            simp only at f1 f2
            go_wp2_with fail
            go_roundw
            case rel => exact R3.out _
            case measure => simp [intOf]; omega
          · obtain rfl : k = l.length := by omega
            have HF := Lib.hid (HD2.out _ ⟨l.length, hk, rfl, hown, hbw⟩)
            clear HD2 hown hbw
            go_wp2_with fail
            go_ret2
            exact HF.out
    · rw [decide_eq_false (fun h => hr (he.1 h))] at CA
      have hT := HTn.out P
      have hU := HU.out (P + 1) (by omega)
      obtain ⟨X, hX⟩ : ∃ z, W + 2 * P + 1 = z := ⟨_, rfl⟩
      obtain ⟨Y, hY⟩ : ∃ z, X / 64 = z := ⟨_, rfl⟩
      have HX := Lib.hid hX
      have HY := Lib.hid hY
      have CX := Lib.hid (fun q => onext_any F W P ((P : Int) - 1) (wr.drewN q) hf.fro.c2 hf.fro.c3 (by omega) hWb (by omega))
      rw [hX] at CX hT
      have z1 : (X : Int) / 64 = (Y : Int) := by omega
      have z3 : (X : Int).tdiv 64 = (Y : Int) := by rw [Int.tdiv_eq_ediv_of_nonneg (by omega)]; exact z1
      have hXb : X ≤ 4194304 := by omega
      have hX1 : 1 ≤ X := by omega
      have hYb : Y ≤ 1048576 := by omega
      have hSX : S + X ≤ MX := by have := hS.out; omega
      have HF : Hid (∀ q, FrS A' B' N M C D W F G P x y w1 (wr.drewN q)) := fun q => hf.drewN q
      have HWy : Hid (∀ q, WaysO x y W hi P Rs u10 (wr.drewN q)) := fun q => hW.kept (S := fun _ => False) ((Kp.refl _ _).drewN q) (fun _ _ _ => id)
      clear hf he hX hY hW
      go_wp2_with fail
      refine CA.out.mono ?_
      rintro e w4 ⟨rfl, q, rfl⟩
      have CX1 := Lib.hid (CX.out q)
      clear CA CX
      go_wp2_with fail
      refine CX1.out.mono ?_
      rintro e w5 ⟨rfl, q2, rfl⟩
      clear CX1
      rw [World.drewN_drewN]
      have hf := HF.out (q + q2)
      have hW := HWy.out (q + q2)
      have hbz' : (wr.drewN (q + q2)).cell? ⟨zf, 0, none⟩ = some (.pointer (some ⟨F, 0, none⟩)) := hbz
      have hsz' : hi ≤ (wr.drewN (q + q2)).heap.size := hsz
      clear HF HWy hbz hsz
      generalize wr.drewN (q + q2) = wd at *
      obtain ⟨Rr, hRr⟩ : ∃ z, wd.heap.size = z := ⟨_, rfl⟩
      have hbz2 : ∀ o o', ((wd.alloc o).alloc o').cell? ⟨zf, 0, none⟩ = some (.pointer (some ⟨F, 0, none⟩)) := fun o o' => (((Kp.refl (fun _ => False) wd).alloc o).alloc o').cell hbz' id
      have HAdv : Hid (Calls Try.prog 25 #[.pointer (some ⟨F, 0, none⟩), .func (.func 31) #[] #[.pointer (some ⟨Rr + 1, 0, none⟩), .pointer (some ⟨zf, 0, none⟩)]] ((wd.alloc (.cells (madeCells #[.int .u64 0] (Y + 1)) 53)).alloc (.cells #[.slice (some ⟨Rr, 0, none⟩) (Y + 1) (Y + 1)] 51)) fun e w7 =>
          e = .returned (.int .i64 (X : Int)) ∧ FrO A' B' N M C D W F G (P : Int) (frT x y W P) w7 ∧ w7.cell? ⟨Rr + 1, 0, none⟩ = some (.slice (some ⟨Rr, 0, none⟩) (Y + 1) (Y + 1)) ∧ w7.cell? ⟨zf, 0, none⟩ = some (.pointer (some ⟨F, 0, none⟩)) ∧ WayR x y W P Rr w7 ∧ WaysO x y W hi P Rs u10 w7 ∧ Below w1.heap.size w1 w7 ∧ hi ≤ w7.heap.size) := by
        obtain ⟨w6, hw6⟩ : ∃ z, (wd.alloc (.cells (madeCells #[.int .u64 0] (Y + 1)) 53)).alloc (.cells #[.slice (some ⟨Rr, 0, none⟩) (Y + 1) (Y + 1)] 51) = z := ⟨_, rfl⟩
        have k6 : ∀ S, Kp S wd w6 := fun S => by rw [← hw6]; exact ((Kp.refl S wd).alloc _).alloc _
        have bx : w6.cell? ⟨Rr + 1, 0, none⟩ = some (.slice (some ⟨Rr, 0, none⟩) (Y + 1) (Y + 1)) := by
          have := cell_one_new (wd.alloc (.cells (madeCells #[.int .u64 0] (Y + 1)) 53)) (.slice (some ⟨Rr, 0, none⟩) (Y + 1) (Y + 1)) 51 0 _ rfl
          rw [Addr.add_lit] at this
          simp only [World.size_alloc, hRr] at this
          rw [← hw6]
          exact this
        have bits : BitR Rr (Y + 1) (P : Int) (fun _ => false) w6 := by
          have := (BitR.new wd (Y + 1) (P : Int)).kept (((Kp.refl (fun _ => False) _).alloc (.cells #[.slice (some ⟨Rr, 0, none⟩) (Y + 1) (Y + 1)] 51))) id
          rw [hRr, hw6] at this
          exact this
        rw [hw6]
        have hFR : ¬ FG F G Rr := fun h => by rcases h with h | h <;> omega
        have hFR1 : ¬ FG F G (Rr + 1) := fun h => by rcases h with h | h <;> omega
        have K := ad_run (Rr + 1) zf Rr F G (Y + 1) P W (by rw [HX.out, HY.out]) hWb (by omega) hFR1 hFz hFR
        have hb6 : Below w1.heap.size w1 w6 := hf.below.trans ((k6 (fun _ => False)).below (fun _ h => h.elim) hf.below.size)
        refine (advance_any 31 #[.pointer (some ⟨Rr + 1, 0, none⟩), .pointer (some ⟨zf, 0, none⟩)] _ (enters_of Try.func31 (by kernel_rfl) rfl) (fun _ _ => rfl) _ _ A' B' N M C D W F G P x y w1 w6 K hx hy hc hd hN hM hl3 (by omega) r1 r2 hb6 hg1 hg2 (fun k h => by rw [h]; omega) (hf.fro.kept (k6 (fun _ => False)) id id) ⟨bx, (k6 (fun _ => False)).cell hbz' id, bits, by omega, by omega⟩).mono ?_
        rintro e w7 ⟨rfl, q1, q2, q3⟩
        have k7 : Kp (fun k => FG F G k ∨ k = Rr) wd w7 := (k6 _).trans q3
        refine ⟨by rw [HX.out], q1, q2.boxr, q2.boxf, ?_, hW.kept k7 (fun k h h' e => by rcases e with (e | e) | e <;> omega), hf.below.trans (k7.below (fun k e => by rcases e with (e | e) | e <;> omega) hf.below.size), Nat.le_trans hsz' k7.size⟩
        unfold WayR
        rw [HX.out, HY.out]
        refine q2.bits.congr fun κ => ?_
        unfold bitF D2
        congr 1
        simp only [decide_eq_decide]
        omega
      go_wp2_with (at_make; refine wpList_make_row _ rfl _ _ 51 rfl 53 i0 (.int .u64 0) Try.underlying51 hi0 hz0 hz1 rfl .i64 .i64 (Y + 1) rfl rfl (by rw [hz2]; omega) (by omega) ?_)
      refine HAdv.out.mono ?_
      rintro e w7 ⟨rfl, hfo, hbr7, hbz7, hwy7, hW7, hb7, hs7⟩
      have hown := hW7.own
      have hRl : hi ≤ Rr := by omega
      have HN : Hid (∀ v' w', w'.ownsRow hi 51 1 v' (P + 1) (((List.range P).map fun q => wyV W (Rs q) q) ++ [wyV W Rr P]) → (w7.alloc (.cells #[.slice (some ⟨Rr, 0, none⟩) (Y + 1) (Y + 1)] 51)).grownBy w' u10.ownBlock → RnRel A' B' N M C D W F G zf hi MX R x y w1 v' (.int .i64 ((S + X : Nat) : Int)) w') := fun v' w' g1 g2 => by
        have k8 : Kp (fun k => hi ≤ k) w7 w' := Kp.of_app g2 (fun k e => (hown.lt k e).1)
        refine ⟨P + 1, S + X, fun q => if q = P then Rr else Rs q, rfl, ?_, by omega, hSX, ⟨?_, hb7.trans (k8.below (fun k h => by omega) hb7.size)⟩, k8.cell hbz7 (by show ¬ hi ≤ zf; omega), hW7.app hwy7 hRl g1 g2, Nat.le_trans hs7 k8.size⟩
        · show S + X = stN W (P + 1)
          have := hS.out
          omega
        · have e : (((P + 1 : Nat) : Int) - 1) = (P : Int) := by simp
          rw [e]
          exact hfo.kept k8 (by omega) (by omega)
      have hyv : wyV W Rr P = .slice (some ⟨Rr, 0, none⟩) (Y + 1) (Y + 1) := by unfold wyV; rw [HX.out, HY.out]
      rw [hyv] at HN
      have hPb : P ≤ 1048577 := by omega
      clear HAdv hfo hwy7 hW7 hb7 hbz7 hyv hf hW hbz' hbz2 hsz'
      go_wp2_with (at_builtin; refine wpList_append_own _ rfl (.tmp 39) (.tmp 41) 50 rfl hi 51 j0 (.slice none 0 0) 1 24 Try.underlying50 ji jz0 jz1 jz2 rfl (by decide) _ _ _ rfl (hown.alloc _) ⟨w7.heap.size, 0, none⟩ 1 1 [_] rfl rfl (cell_one_new _ _ _) (one_slice _ _ _) (by unfold maxLen; omega) (by omega) (by simp; omega) ?_)
      intro v' w8 g1 g2 _
      have R' := Lib.hid (HN.out v' w8 g1 g2)
      clear HN g1 g2 hown
      go_wp2_with fail
      go_roundw
      case rel => first | exact R'.out | ((repeat apply Exists.intro); exact ⟨R'.out, rfl⟩)
      case measure => simp [intOf]; omega

end Go.Proofs.Ytgbcdeahiemhoaa
