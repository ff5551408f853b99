/-
  Words and contracts that the proof leans on.
-/
import Derived.Test.YtdedmmeefffpkaaM23
import Derived.Test.YtdedmmeefffpkaaM25
import Derived.Test.YtdedmmeefffpkaaM14
import Derived.Test.YtdedmmeefffpkaaM8
import Derived.Test.YtdedmmeefffpkaaM11
import Derived.Test.YtdedmmeefffpkaaM3
namespace Go.Proofs.Ytdedmmeefffpkaa
open Go.RowKit

/-- The head of a round. -/
def BkRel (a l : List Int) (n m : Nat) (w : World) (v i j : Value) (wr : World) : Prop :=
  ∃ (L : List Pr) (K x y : Nat), Hid (L.length = K) ∧ x ≤ n ∧ y ≤ m ∧ i = .int .i64 (x : Int) ∧ j = .int .i64 (y : Int) ∧ wr.ownsRow w.heap.size 52 2 v K (pv L) ∧ Below w.heap.size w wr ∧ Hid (Ga a l x y L.reverse ∧ K + px a l x y = lcs a l)
/-- The head of a round within a square: its table lies in block F. -/
def BnRel (a l : List Int) (S : Nat → Nat → Nat) (P Q F x0 y0 : Nat) (w : World) (v i j : Value) (wr : World) : Prop :=
  ∃ (L : List Pr) (K x y : Nat), Hid (L.length = K) ∧ x ≤ x0 ∧ y ≤ y0 ∧ i = .int .i64 (x : Int) ∧ j = .int .i64 (y : Int) ∧ wr.ownsRow w.heap.size 52 2 v K (pv L) ∧ Below w.heap.size w wr ∧ Hid (Ga a l x y L.reverse ∧ K + px a l x y = lcs a l) ∧
    (∀ k, v.ownBlock = some k → k ≠ F) ∧ (∀ r c, r ≤ P → c ≤ Q → wr.cell? ⟨F, r * 4 + c, none⟩ = some (.int .i64 (S r c : Int)))
theorem BnRel.drew {a l : List Int} {S : Nat → Nat → Nat} {P Q F x0 y0 : Nat} {w wr : World} {v i j : Value} (h : BnRel a l S P Q F x0 y0 w v i j wr) : BnRel a l S P Q F x0 y0 w v i j wr.drew := by
  obtain ⟨L, K, x, y, h1, h2, h3, h4, h5, h6, h7, h8, h9, h10⟩ := h
  exact ⟨L, K, x, y, h1, h2, h3, h4, h5, h6, h7.drew, h8, h9, h10⟩
/-- What back leaves. -/
def BkMade (a l : List Int) (w : World) (e : Ending) (w' : World) : Prop := ∃ R, (goodB a l R = true ∧ R.length = lcs a l) ∧ MadeP R w e w'
theorem ga_front {a l : List Int} {R : List Pr} {x y : Nat} {u : Int} (h : Ga a l (x + 1) (y + 1) R) (h1 : a[x]? = some u) (h2 : l[y]? = some u) : Ga a l x y (((x : Int), (y : Int)) :: R) := ⟨x, y, u, rfl, Nat.le_refl _, Nat.le_refl _, h1, h2, h⟩
theorem quo_is {I t r : Nat} (h : I / t = r) : ((I : Int)).tdiv (t : Int) = (r : Int) := by
  rw [Int.tdiv_eq_ediv_of_nonneg (by omega), ← h]
  simp

set_option maxRecDepth 100000 in
set_option maxHeartbeats 3200000 in
theorem back_any (A B : Option Addr) (n m c d t b sh Sb : Nat) (a l : List Int) (sF : Nat → Nat) (w : World) (ht : 1 ≤ t ∧ t ≤ 3) (hn : a.length = n) (hm : l.length = m) (hb : n ≤ 1048576) (hb' : m ≤ 1048576) (hc : n ≤ c) (hd : m ≤ d)
    (ra : RowN b w A (iv a)) (rb : RowN b w B (iv l)) (hS : Sht A B n m c d t b sh w) (rS : BR w Sb (upN n t * upN m t) sF) (hF : ∀ r c, r < upN n t → c < upN m t → sF (r * upN m t + c) = sdN t a l r c) :
    Calls Try.prog 20 #[.pointer (some ⟨sh, 0, none⟩), .slice (some ⟨Sb, 0, none⟩) (upN n t * upN m t) (upN n t * upN m t)] w (BkMade a l w) := by
  obtain ⟨i0, hi, hz0, hz1, hz2⟩ := info_parts Try.infoPair
  have hac := upN_small (n := m) ht.1
  have han := upN_small (n := n) ht.1
  have HFl := Lib.hid (fun r k w (ra : RowN b w A (iv a)) (rb : RowN b w B (iv l)) (hS : Sht A B n m c d t b sh w) (hr : r * t ≤ n) (hk : k * t ≤ m) => fillR_any A B n m c d t b sh r k a l w ht hn hm hb hb' hc hd hr hk ra rb hS)
  have HLc : Hid (lcs a l ≤ n) := by show _ ≤ _; rw [← hn]; exact lcs_le_left a l
  have HN := Lib.hid hn
  have HM := Lib.hid hm
  have HFs := Lib.hid hF
  have hz : ((t : Int) == 0) = false := by simp; omega
  have HST : Hid (∀ q, BkRel a l n m w (.slice none 0 0) (.int .i64 (n : Int)) (.int .i64 (m : Int)) (w.drewN q)) := fun q => ⟨[], 0, n, m, rfl, Nat.le_refl _, Nat.le_refl _, rfl, rfl, World.ownsRow_nil _ _ _ _, below_drewN (Below.refl _ _) q, trivial, by
    rw [Nat.zero_add, px_beyond a l (by omega) (by omega)]⟩
  have c1 := hS.c1
  have c2 := hS.c2
  obtain ⟨N, hN⟩ : ∃ N, upN n t * upN m t = N := ⟨_, rfl⟩
  have HNN := Lib.hid hN
  rw [hN] at rS ⊢
  clear hn hm hF hN
  go_enter Try.func20, Try.ntmps20
  go_wp2_with fail
  go_quiet (fail)
  have hst := HST.out nq
  clear HST c1 c2
  generalize hwq : w.drewN nq = wq at *
  clear hwq
  go_wp2_with fail
  go_loopw [5, 6, 7] (fun v i j wr => BkRel a l n m w v i j wr) (fun _ i j _ => (intOf i).toNat + (intOf j).toNat)
  case atStart => exact hst
  case round =>
    clear hst
    obtain ⟨L, K, x, y, HL, hx, hy, rfl, rfl, hwn, hbr, HO⟩ := hrel
    by_cases hx0 : 0 < x ∧ 0 < y
    · obtain ⟨I, rfl⟩ : ∃ I, x = I + 1 := ⟨x - 1, by omega⟩
      obtain ⟨J, rfl⟩ : ∃ J, y = J + 1 := ⟨y - 1, by omega⟩
      obtain ⟨r, hr⟩ : ∃ r, I / t = r := ⟨_, rfl⟩
      obtain ⟨k, hk⟩ : ∃ k, J / t = k := ⟨_, rfl⟩
      have q1 := quo_is hr
      have q2 := quo_is hk
      have r1 : r * t ≤ I := by rw [← hr]; exact Nat.div_mul_le_self I t
      have k1 : k * t ≤ J := by rw [← hk]; exact Nat.div_mul_le_self J t
      have r2 : I < r * t + t := by have := Nat.lt_div_mul_add (a := I) (b := t) (by omega); rw [hr] at this; exact this
      have k2 : J < k * t + t := by have := Nat.lt_div_mul_add (a := J) (b := t) (by omega); rw [hk] at this; exact this
      have r3 : r < upN n t := by
        have := upN_ge (n := n) ht.1
        rcases Nat.lt_or_ge r (upN n t) with h | h
        · exact h
        · have := Nat.mul_le_mul_right t h
          omega
      have k3 : k < upN m t := by
        have := upN_ge (n := m) ht.1
        rcases Nat.lt_or_ge k (upN m t) with h | h
        · exact h
        · have := Nat.mul_le_mul_right t h
          omega
      clear hr hk
      have hs := hS.below hbr
      have c3 := hs.c3
      have s1 : IntKind.i64.wrap (r : Int) = (r : Int) := IntWalk.i64_in _ (by omega)
      have s2 : IntKind.i64.wrap (k : Int) = (k : Int) := IntWalk.i64_in _ (by omega)
      have t1 : ((I + 1 : Nat) : Int) - 1 = (I : Int) := by omega
      have t2 : ((J + 1 : Nat) : Int) - 1 = (J : Int) := by omega
      go_wp2_with fail
      go_quiet (fail)
      replace hs := hs.drewN nq
      replace hbr := below_drewN hbr nq
      replace hwn : (wr.drewN nq).ownsRow w.heap.size 52 2 u5 K (pv L) := hwn
      clear c3 q1 q2 s1 s2
      generalize wr.drewN nq = wz at *
      obtain ⟨X, hX⟩ : ∃ X, r * upN m t = X := ⟨_, rfl⟩
      have e1 : (r : Int) * ((upN m t : Nat) : Int) = (X : Int) := by rw [← hX]; simp
      have hXk : X + k < N := by
        rw [← HNN.out]
        have := Nat.mul_le_mul_right (upN m t) (show r + 1 ≤ upN n t from r3)
        rw [Nat.add_mul, Nat.one_mul, hX] at this
        omega
      have hNN : N ≤ 1099511627776 := by rw [← HNN.out]; exact Nat.mul_le_mul (show upN n t ≤ 1048576 by omega) (show upN m t ≤ 1048576 by omega)
      have cS := (rowIs_grown rS (below_grown hbr none) (by simp) : BR wz Sb _ sF).cell hXk
      have e2 := HFs.out r k r3 k3
      rw [hX] at e2
      rw [e2] at cS
      have c5 := hs.c5
      have hsd := sdN_lt t a l r k
      have h64 : 2 ^ (2 * t) ≤ 64 := Nat.pow_le_pow_right (n := 2) (by decide) (show 2 * t ≤ 6 by omega)
      have s5 : IntKind.i64.wrap ((sdN t a l r k : Nat) : Int) = ((sdN t a l r k : Nat) : Int) := IntWalk.i64_in _ (by omega)
      have HC := Lib.hid (HFl.out r k wz (ra.grown (below_grown hbr (some b))) (rb.grown (below_grown hbr (some b))) hs (by omega) (by omega))
      have HIn := Lib.hid (fun i j (hi : i ≤ t) (hj : j ≤ t) => inS_at t a l r k hi hj)
      have hP := pc_length a r t
      have hQ := pc_length l k t
      rw [HN.out] at hP
      rw [HM.out] at hQ
      clear e2 hX
      generalize hSS : inS t a l r k = S at *
      clear hSS
      generalize sdN t a l r k = sd at *
      generalize (pc a r t).length = P at *
      generalize (pc l k t).length = Q at *
      go_upto_region 5 with (fail)
      go_wp2_with (go_at_call 28; refine HC.out.mono ?_; rintro e w5 ⟨cs, rfl, g1, g2, g3, g4⟩; have hst := run_storeCells_new (P := Try.prog) w5 75 (Array.replicate 16 (.int .i64 0)) cs (by rw [g1]; exact Try.sizeInn) (by rw [g1]; rfl) g2; replace hst : (storeCells ⟨w5.heap.size, 0, none⟩ cs.toList 0).run Try.prog (w5.alloc (.cells #[.int .i64 0, .int .i64 0, .int .i64 0, .int .i64 0, .int .i64 0, .int .i64 0, .int .i64 0, .int .i64 0, .int .i64 0, .int .i64 0, .int .i64 0, .int .i64 0, .int .i64 0, .int .i64 0, .int .i64 0, .int .i64 0] 75)) = _ := hst)
      have hF : ∀ i j, i ≤ P → j ≤ Q → (w5.alloc (.cells cs 75)).cell? ⟨w5.heap.size, i * 4 + j, none⟩ = some (.int .i64 (S i j : Int)) := fun i j hi hj => by
        rw [cell_of_row _ _ _ cs 75 (0, 0) (heap_alloc_last w5 _), Nat.mul_comm i 4]
        exact g3 i j hi hj
      have hwn1 : (w5.alloc (.cells cs 75)).ownsRow w.heap.size 52 2 u5 K (pv L) := own_belowS (own_belowS hwn g4 (Nat.le_refl _)) (below_a1 _ _) (Nat.le_refl _)
      have hne : ∀ k, u5.ownBlock = some k → k ≠ w5.heap.size := fun k hk => by have := (hwn.lt k hk).2; have := g4.size; omega
      have hbr1 : Below w.heap.size w (w5.alloc (.cells cs 75)) := below_go (below_go hbr g4) (below_a1 _ _)
      clear hst g1 g2 g3 g4 HC cS c5 s5 e1 hwn hbr hs
      generalize w5.alloc (.cells cs 75) = w6 at *
      generalize w5.heap.size = F at *
      obtain ⟨T0, hT0⟩ : ∃ T0, r * t = T0 := ⟨_, rfl⟩
      obtain ⟨L0, hL0⟩ : ∃ L0, k * t = L0 := ⟨_, rfl⟩
      have e3 : (r : Int) * (t : Int) = (T0 : Int) := by rw [← hT0]; simp
      have e4 : (k : Int) * (t : Int) = (L0 : Int) := by rw [← hL0]; simp
      rw [hT0] at r1 r2 hP HIn
      rw [hL0] at k1 k2 hQ HIn
      have c3 := (hS.below hbr1).c3
      have HB : Hid (∀ q, BnRel a l S P Q F (I + 1) (J + 1) w u5 (.int .i64 ((I + 1 : Nat) : Int)) (.int .i64 ((J + 1 : Nat) : Int)) (w6.drewN q)) := fun q => ⟨L, K, I + 1, J + 1, HL, Nat.le_refl _, Nat.le_refl _, rfl, rfl, hwn1, below_drewN hbr1 q, HO, hne, hF⟩
      clear hT0 hL0 hF hne hwn1 hbr1 HO HL
      go_wp2_with fail
      go_quiet (fail)
      have hst := HB.out nq
      clear HB c3
      generalize hwq : w6.drewN nq = w7 at *
      clear hwq
      go_wp2_with fail
      go_loopw [5, 6, 7] (fun v i j wr => BnRel a l S P Q F (I + 1) (J + 1) w v i j wr) (fun _ i j _ => (intOf i).toNat + (intOf j).toNat)
      case atStart => exact hst
      case round =>
        clear hst
        obtain ⟨L, K, x, y, HL, hx', hy', rfl, rfl, hwn, hbr, HO, hne, hF⟩ := hrel
        by_cases hxT : T0 < x
        · by_cases hyL : L0 < y
          · obtain ⟨i, rfl⟩ : ∃ i, x = T0 + i + 1 := ⟨x - T0 - 1, by omega⟩
            obtain ⟨j, rfl⟩ : ∃ j, y = L0 + j + 1 := ⟨y - L0 - 1, by omega⟩
            have hiP : i + 1 ≤ P := by omega
            have hjQ : j + 1 ≤ Q := by omega
            have hit : i + 1 ≤ t := by omega
            have hjt : j + 1 ≤ t := by omega
            obtain ⟨I', hI'⟩ : ∃ I', T0 + i = I' := ⟨_, rfl⟩
            obtain ⟨J', hJ'⟩ : ∃ J', L0 + j = J' := ⟨_, rfl⟩
            have ha : I' < a.length := by rw [HN.out]; omega
            have hl : J' < l.length := by rw [HM.out]; omega
            have t1 : ((I' + 1 : Nat) : Int) - 1 = (I' : Int) := by omega
            have t2 : ((J' + 1 : Nat) : Int) - 1 = (J' : Int) := by omega
            have t3 : (I' : Int) - (T0 : Int) = (i : Int) := by omega
            have t4 : ((J' + 1 : Nat) : Int) - (L0 : Int) = ((j + 1 : Nat) : Int) := by omega
            have t5 : ((I' + 1 : Nat) : Int) - (T0 : Int) = ((i + 1 : Nat) : Int) := by omega
            have t6 : I' + 1 - T0 = i + 1 := by omega
            have t7 : J' + 1 - L0 = j + 1 := by omega
            have hIn1 := HIn.out (i + 1) (j + 1) hit hjt
            have hIn2 := HIn.out i (j + 1) (by omega) hjt
            rw [← Nat.add_assoc, ← Nat.add_assoc, hI', hJ'] at hIn1
            rw [← Nat.add_assoc, hI', hJ'] at hIn2
            have HI1 := Lib.hid hIn1
            have HI2 := Lib.hid hIn2
            rw [hI'] at hx' HO ⊢
            rw [hJ'] at hy' HO ⊢
            have hxn : I' + 1 ≤ n := by omega
            have hym : J' + 1 ≤ m := by omega
            clear hIn1 hIn2 hI' hJ' hxT hyL
            have hs := hS.below hbr
            have c1 := hs.c1
            have c2 := hs.c2
            obtain ⟨ga, oa, rfl, xa⟩ := (ra.grown (below_grown hbr (some b))).1.int ha
            obtain ⟨gl, ol, rfl, xl⟩ := (rb.grown (below_grown hbr (some b))).1.int hl
            have HU : Hid (a[I']? = some a[I']) := List.getElem?_eq_getElem ha
            have HV : Hid (l[J']? = some l[J']) := List.getElem?_eq_getElem hl
            generalize a[I'] = u at *
            generalize l[J'] = v at *
            clear hs ha hl ra rb hS
            by_cases huv : u = v
            · subst huv
              have HP := Lib.hid (px_same HU.out HV.out)
              have hKn : K + 1 ≤ n := by have e1 := HO.out.2; have e2 := HP.out; have e3 := HLc.out; omega
              go_wp2_with fail
              go_quiet (fail)
              have hwn1 : (wr.drewN nq).ownsRow w.heap.size 52 2 u5 K (pv L) := hwn
              have hbr1 : Below w.heap.size w (wr.drewN nq) := below_drewN hbr nq
              have hF1 : ∀ r c, r ≤ P → c ≤ Q → (wr.drewN nq).cell? ⟨F, r * 4 + c, none⟩ = some (.int .i64 (S r c : Int)) := hF
              clear hwn hbr hF c1 c2 xa xl
              generalize wr.drewN nq = wy at *
              have hsy := hbr1.size
              go_wp2_with (at_builtin; refine wpList_append_own_at _ rfl (.tmp 103) (.tmp 107) 28 rfl w.heap.size 52 i0 (.agg #[.int .i64 0, .int .i64 0]) 2 16 Try.underlying28 hi hz0 hz1 hz2 rfl (by decide) _ _ _ rfl (hwn1.alloc _) ⟨wy.heap.size, 0, none⟩ 1 1 [.int .i64 (I' : Int), .int .i64 (J' : Int)] rfl rfl (pair_new wy _ _ _) (one_pair _ _) (by unfold maxLen; omega) (by omega) (by simp; omega) ?_)
              intro v' w3 hown' hg' _ h5
              have R : Hid (BnRel a l S P Q F (I + 1) (J + 1) w v' (.int .i64 (I' : Int)) (.int .i64 (J' : Int)) w3) := by
                refine ⟨L ++ [((I' : Int), (J' : Int))], K + 1, I', J', by show _ = _; rw [List.length_append, HL.out]; rfl, by omega, by omega, rfl, rfl, by rw [pv_append]; exact hown', (hbr1.alloc (by omega) _).grown hg' (by simp; omega) (fun x hx => (hwn1.lt x hx).1), ?_, fun z hz => ?_, fun i j hi hj => ?_⟩
                · have e1 := HO.out.2
                  have e2 := HP.out
                  refine ⟨?_, by omega⟩
                  rw [List.reverse_append]
                  exact ga_front HO.out.1 HU.out HV.out
                · have hFs := World.block_lt_of_cell? _ _ (hF1 0 0 (Nat.zero_le _) (Nat.zero_le _))
                  rcases h5 with h5 | h5
                  · exact hne z (by rw [← h5]; exact hz)
                  · rw [h5] at hz
                    injection hz with hz
                    simp only at hFs
                    omega
                · have h1 := hF1 i j hi hj
                  have hFs := World.block_lt_of_cell? _ _ h1
                  rw [← h1]
                  refine World.cell?_of_block (a := ⟨F, i * 4 + j, none⟩) ?_
                  rw [hg'.block F (by simp only at hFs; simp; omega) (fun e => hne F e.symm rfl)]
                  exact Below.heap_alloc _ _ _ hFs
              clear hown' hg' hwn1 hbr1 hF1 HO hne h5
              go_wp2_with fail
              go_roundw
              case rel => first | exact R.out | ((repeat apply Exists.intro); exact ⟨R.out, rfl⟩)
              case measure => simp [intOf]; omega
            · have hz : (u == v) = false := by simpa using huv
              have HP := Lib.hid (px_other HU.out HV.out huv)
              have f1 := hF i (j + 1) (by omega) hjQ
              have f2 := hF (i + 1) (j + 1) hiP hjQ
              have RI : Hid (S i (j + 1) = S (i + 1) (j + 1) → ∀ wy, Below wr.heap.size wr wy → BnRel a l S P Q F (I + 1) (J + 1) w u5 (.int .i64 (I' : Int)) (.int .i64 ((J' + 1 : Nat) : Int)) wy) := fun he wy hb => by
                refine ⟨L, K, I', J' + 1, HL, by omega, hy', rfl, rfl, own_belowS hwn hb (Nat.le_refl _), below_go hbr hb, ?_, hne, fun i j hi hj => (hb.cell (p := ⟨F, i * 4 + j, none⟩) (World.block_lt_of_cell? _ _ (hF i j hi hj))).trans (hF i j hi hj)⟩
                have e1 := HI1.out
                have e2 := HI2.out
                have e3 := HO.out.2
                exact ⟨ga_mono HO.out.1 (Nat.le_succ _) (Nat.le_refl _), by omega⟩
              have RJ : Hid (S i (j + 1) ≠ S (i + 1) (j + 1) → ∀ wy, Below wr.heap.size wr wy → BnRel a l S P Q F (I + 1) (J + 1) w u5 (.int .i64 ((I' + 1 : Nat) : Int)) (.int .i64 (J' : Int)) wy) := fun he wy hb => by
                refine ⟨L, K, I' + 1, J', HL, hx', by omega, rfl, rfl, own_belowS hwn hb (Nat.le_refl _), below_go hbr hb, ?_, hne, fun i j hi hj => (hb.cell (p := ⟨F, i * 4 + j, none⟩) (World.block_lt_of_cell? _ _ (hF i j hi hj))).trans (hF i j hi hj)⟩
                have e1 := HI1.out
                have e2 := HI2.out
                have e3 := HO.out.2
                have e4 := HP.out
                have e5 := px_v a l I' (J' + 1)
                exact ⟨ga_mono HO.out.1 (Nat.le_refl _) (Nat.le_succ _), by omega⟩
              clear hwn hbr hF HO hne huv HP HI1 HI2 HU HV HL
              generalize S i (j + 1) = s1 at *
              generalize S (i + 1) (j + 1) = s2 at *
              by_cases hs : s1 = s2
              · have R := Lib.hid (RI.out hs)
                clear RI RJ
                subst hs
                go_wp2_with fail
                go_quiet (fail)
                have f1' : (wr.drewN nq).cell? _ = _ := f1
                have f2' : (wr.drewN nq).cell? _ = _ := f2
                replace R := Lib.hid (R.out (wr.drewN nq) (below_drewN (Below.refl _ _) nq))
                clear c1 c2 xa xl f1 f2
                generalize wr.drewN nq = wy at *
                have R' : Hid (BnRel a l S P Q F (I + 1) (J + 1) w u5 _ _ wy.drew) := BnRel.drew R.out
                clear R
                go_wp2_with fail
                go_region
                clear f1' f2'
                generalize wy.drew = wz' at *
                go_wp2_with fail
                go_roundw
                case rel => first | exact R'.out | ((repeat apply Exists.intro); exact ⟨R'.out, rfl⟩)
                case measure => first | (simp [intOf]; done) | (simp [intOf]; omega)
              · have R := Lib.hid (RJ.out hs)
                clear RI RJ
                have hz2 : ((s1 : Int) == (s2 : Int)) = false := by simp; omega
                clear hs
                go_wp2_with fail
                go_quiet (fail)
                have f1' : (wr.drewN nq).cell? _ = _ := f1
                have f2' : (wr.drewN nq).cell? _ = _ := f2
                replace R := Lib.hid (R.out (wr.drewN nq) (below_drewN (Below.refl _ _) nq))
                clear c1 c2 xa xl f1 f2
                generalize wr.drewN nq = wy at *
                have R' : Hid (BnRel a l S P Q F (I + 1) (J + 1) w u5 _ _ wy.drew) := BnRel.drew R.out
                clear R
                go_wp2_with fail
                go_region
                clear f1' f2'
                generalize wy.drew = wz' at *
                go_wp2_with fail
                go_roundw
                case rel => first | exact R'.out | ((repeat apply Exists.intro); exact ⟨R'.out, rfl⟩)
                case measure => first | (simp [intOf]; done) | (simp [intOf]; omega)
          · have R : Hid (BkRel a l n m w u5 (.int .i64 (x : Int)) (.int .i64 (y : Int)) wr) := ⟨L, K, x, y, HL, by omega, by omega, rfl, rfl, hwn, hbr, HO⟩
            clear hwn hbr hF HO hne
            go_wp2_with fail
            go_roundw
            case rel => first | exact R.out | ((repeat apply Exists.intro); exact ⟨R.out, rfl⟩)
            case measure => simp [intOf]; omega
        · have R : Hid (BkRel a l n m w u5 (.int .i64 (x : Int)) (.int .i64 (y : Int)) wr) := ⟨L, K, x, y, HL, by omega, by omega, rfl, rfl, hwn, hbr, HO⟩
          clear hwn hbr hF HO hne
          go_wp2_with fail
          go_roundw
          case rel => first | exact R.out | ((repeat apply Exists.intro); exact ⟨R.out, rfl⟩)
          case measure => simp [intOf]; omega
    · by_cases hx1 : 0 < x
      · obtain rfl : y = 0 := by omega
        have HR := Lib.hid (rev_any w.heap.size K u5 L wr HL.out (by have e1 := HO.out.2; have e2 := HLc.out; omega) hwn)
        have HQ : Hid (∀ w', RvMade w.heap.size u5 K L wr (.returned (.tuple #[])) w' → BkMade a l w (.returned u5) w') := fun w' h => by
          obtain ⟨_, h2, h3⟩ := h
          have e1 := HO.out.2
          rw [px_zero_right, Nat.add_zero] at e1
          refine ⟨L.reverse, ⟨good_iff.2 (ga_mono HO.out.1 (Nat.zero_le _) (Nat.zero_le _)), by rw [List.length_reverse, HL.out, e1]⟩, u5, rfl, by rw [List.length_reverse, HL.out]; exact h2, hbr.grown h3 hbr.size (fun x hx => (hwn.lt x hx).1)⟩
        clear hwn hbr HO HL
        go_wp2_with fail
        refine HR.out.mono ?_
        rintro e w9 ⟨rfl, h2, h3⟩
        have HF := Lib.hid (HQ.out w9 ⟨rfl, h2, h3⟩)
        clear HR HQ h2 h3
        go_wp2_with fail
        go_ret
        exact HF.out
      · obtain rfl : x = 0 := by omega
        have HR := Lib.hid (rev_any w.heap.size K u5 L wr HL.out (by have e1 := HO.out.2; have e2 := HLc.out; omega) hwn)
        have HQ : Hid (∀ w', RvMade w.heap.size u5 K L wr (.returned (.tuple #[])) w' → BkMade a l w (.returned u5) w') := fun w' h => by
          obtain ⟨_, h2, h3⟩ := h
          have e1 := HO.out.2
          rw [px_zero_left, Nat.add_zero] at e1
          refine ⟨L.reverse, ⟨good_iff.2 (ga_mono HO.out.1 (Nat.zero_le _) (Nat.zero_le _)), by rw [List.length_reverse, HL.out, e1]⟩, u5, rfl, by rw [List.length_reverse, HL.out]; exact h2, hbr.grown h3 hbr.size (fun x hx => (hwn.lt x hx).1)⟩
        clear hwn hbr HO HL
        go_wp2_with fail
        refine HR.out.mono ?_
        rintro e w9 ⟨rfl, h2, h3⟩
        have HF := Lib.hid (HQ.out w9 ⟨rfl, h2, h3⟩)
        clear HR HQ h2 h3
        go_wp2_with fail
        go_ret
        exact HF.out

end Go.Proofs.Ytdedmmeefffpkaa

namespace Go.Proofs.Ytdedmmeefffpkaa
open Go.RowKit

/-- What Run leaves. -/
def RnMade (n m t b : Nat) (a l : List Int) (w : World) (e : Ending) (w' : World) : Prop :=
  ∃ (R : List Pr) (v : Value), e = .returned (.tuple #[v, .int .i64 (upN n t * upN m t : Nat), .int .i64 0]) ∧ goodB a l R = true ∧ R.length = lcs a l ∧ w'.ownsRow w.heap.size 52 2 v R.length (pv R) ∧ Til t b w' ∧ w.grownBy w' (some b)
/-- The head of a round of Run. -/
def RnRel (A B : Option Addr) (n m c d t b lo N : Nat) (a l : List Int) (w0 : World) (i : Value) (wr : World) : Prop :=
  ∃ r : Nat, r ≤ upN n t ∧ i = .int .i64 (r : Int) ∧ Ps A B n m c d t b lo lo (lo + 3) w0 wr ∧ BR wr (lo + 1) m (stp t a l r) ∧ ∃ sF, BR wr (lo + 2) N sF ∧ ∀ r' k, r' < r → k < upN m t → sF (r' * upN m t + k) = sdN t a l r' k
theorem sMix_all {t : Nat} {a l : List Int} {r ac : Nat} {sF : Nat → Nat} (h : ∀ r' k, r' < r → k < ac → sF (r' * ac + k) = sdN t a l r' k) : ∀ r' k, r' < r + 1 → k < ac → sMix t a l r (r * ac) ac sF (r' * ac + k) = sdN t a l r' k := fun r' k hr hk => by
  unfold sMix
  by_cases e : r' = r
  · subst e
    rw [if_pos (by omega), Nat.add_sub_cancel_left]
  · have := Nat.mul_le_mul_right ac (show r' + 1 ≤ r by omega)
    rw [Nat.add_mul, Nat.one_mul] at this
    rw [if_neg (by omega), h r' k (by omega) hk]
/-- What a round reads. -/
def RnS (lo ac : Nat) (w : World) : Prop := w.cell? ⟨lo, 5, none⟩ = some (.int .i64 (ac : Int))
/-- What the end reads. -/
def RnT (lo dn ac : Nat) (w : World) : Prop := w.cell? ⟨lo, 4, none⟩ = some (.int .i64 (dn : Int)) ∧ w.cell? ⟨lo, 5, none⟩ = some (.int .i64 (ac : Int))

set_option maxRecDepth 100000 in
set_option maxHeartbeats 3200000 in
theorem prunR_any (A B : Option Addr) (n m c d t b : Nat) (a l : List Int) (w : World) (ht : 1 ≤ t ∧ t ≤ 3) (hn : a.length = n) (hm : l.length = m) (hb : n ≤ 1048576) (hb' : m ≤ 1048576) (hc : n ≤ c) (hd : m ≤ d)
    (ra : RowN b w A (iv a)) (rb : RowN b w B (iv l)) (hT : Til t b w) :
    Calls Try.prog 10 #[.pointer (some ⟨b, 0, none⟩), .slice A n c, .slice B m d] w (RnMade n m t b a l w) := by
  have hmx : Try.prog.follows .mixedOrders = true := by kernel_rfl
  obtain ⟨i0, hi, hz0, hz1, hz2⟩ := info_parts Try.infoU8
  have hbl := hT.lt
  have hac := upN_small (n := m) ht.1
  have han := upN_small (n := n) ht.1
  have HD := Lib.hid (divide_any A B n m c d t b w hb hb' ht hT.c0)
  have HN := Lib.hid hn
  have HM := Lib.hid hm
  obtain ⟨N, hN⟩ : ∃ N, upN n t * upN m t = N := ⟨_, rfl⟩
  have HNN := Lib.hid hN
  have eN : ((upN n t : Nat) : Int) * ((upN m t : Nat) : Int) = (N : Int) := by rw [← hN]; simp
  have hN40 : N ≤ 1099511627776 := by rw [← hN]; exact Nat.mul_le_mul (show upN n t ≤ 1048576 by omega) (show upN m t ≤ 1048576 by omega)
  have wN : IntKind.i64.wrap (N : Int) = (N : Int) := IntWalk.i64_in _ (by omega)
  have HQ : Hid (∀ (R : List Pr) (v : Value) (w' : World), goodB a l R = true → R.length = lcs a l → w'.ownsRow w.heap.size 52 2 v R.length (pv R) → Til t b w' → w.grownBy w' (some b) → RnMade n m t b a l w (.returned (.tuple #[v, .int .i64 (N : Int), .int .i64 0])) w') := fun R v w' h1 h2 h3 h4 h5 => ⟨R, v, by rw [hN], h1, h2, h3, h4, h5⟩
  have hmk : ∀ w, (Instr.makeSlice 43 (.int .i64 (N : Int)) (.int .i64 (N : Int))).run Try.prog w = .ok (.slice (some ⟨w.heap.size, 0, none⟩) N N) (w.alloc (.cells (madeCells #[.int .u8 0] N) 5)) := fun w =>
    run_make_row (P := Try.prog) 43 5 i0 (.int .u8 0) Try.underlying43 hi hz0 hz1 rfl .i64 .i64 N (by rw [hz2]; omega) (by omega) w
  clear hn hm hN
  go_enter Try.func10, Try.ntmps10
  go_wp2_with fail
  refine HD.out.mono ?_
  rintro e w1 ⟨rfl, hS, hB, hz⟩
  clear HD
  go_upto_region 5 with (at_make; refine wpList_make_row _ rfl _ _ 43 rfl 5 i0 (.int .u8 0) Try.underlying43 hi hz0 hz1 rfl .i64 .i64 m rfl rfl (by rw [hz2]; omega) (by omega) ?_)
  have g1 := World.rowIs_made w1 (.int .u8 0) m 5
  rw [hz] at g1
  replace hB := hB.alloc (by omega) (.cells (madeCells #[.int .u8 0] m) 5)
  replace hS := hS.below (below_a1 w1 (.cells (madeCells #[.int .u8 0] m) 5))
  have hz2' : (w1.alloc (.cells (madeCells #[.int .u8 0] m) 5)).heap.size = w.heap.size + 2 := by simp [hz]
  generalize w1.alloc (.cells (madeCells #[.int .u8 0] m) 5) = w2 at *
  clear hi hz0 hz1 hz2
  have hT2 : RnT w.heap.size (upN n t) (upN m t) w2.drew := ⟨hS.c4, hS.c5⟩
  have hT3 : ∀ o, RnT w.heap.size (upN n t) (upN m t) (w2.drew.alloc o) := fun o => ⟨(hS.below (w' := w2.drew.alloc o) ((Below.refl _ w2).drew.alloc (Nat.le_refl _) o)).c4, (hS.below (w' := w2.drew.alloc o) ((Below.refl _ w2).drew.alloc (Nat.le_refl _) o)).c5⟩
  refine wp_region_held (S := RnT w.heap.size (upN n t) (upN m t)) hmx ?_
  refine wpAnyH_take (i := 0) (v := ?v34) rfl (by kernel_rfl) (by kernel_rfl) (by kernel_rfl) (fun _ _ _ h => h) (.inl ⟨by kernel_rfl, ?y34⟩) hT2 ?_
  case y34 =>
    rintro w' ⟨s0, s1⟩
    go_simp
    try simp only [eN, wN]
    first | done | with_reducible rfl | rfl
  try simp only [Act.put]
  refine wpAnyH_take (i := 1) (v := ?v35) rfl (by kernel_rfl) (by kernel_rfl) (by kernel_rfl) (fun _ _ _ h => h) (.inl ⟨by kernel_rfl, ?y35⟩) hT2 ?_
  case y35 =>
    rintro w' ⟨s0, s1⟩
    go_simp
    try simp only [eN, wN]
    first | done | with_reducible rfl | rfl
  try simp only [Act.put]
  refine wpAnyH_take (i := 2) (v := ?v36) rfl (by kernel_rfl) (by kernel_rfl) (by kernel_rfl) (fun _ _ _ h => h) (.inl ⟨by kernel_rfl, ?y36⟩) hT2 ?_
  case y36 =>
    rintro w' ⟨s0, s1⟩
    go_simp
    try simp only [eN, wN]
    first | done | with_reducible rfl | rfl
  try simp only [Act.put]
  refine wpAnyH_take (i := 3) (v := ?v37) rfl (by kernel_rfl) (by kernel_rfl) (by kernel_rfl) (fun _ _ _ h => h) (.inl ⟨by kernel_rfl, ?y37⟩) hT2 ?_
  case y37 =>
    rintro w' ⟨s0, s1⟩
    go_simp
    try simp only [eN, wN]
    first | done | with_reducible rfl | rfl
  try simp only [Act.put]
  refine wpAnyH_take (i := 4) (v := ?v38) rfl (by kernel_rfl) (by kernel_rfl) (by kernel_rfl) (fun _ _ _ h => h) (.inl ⟨by kernel_rfl, ?y38⟩) hT2 ?_
  case y38 =>
    rintro w' ⟨s0, s1⟩
    go_simp
    try simp only [eN, wN]
    first | done | with_reducible rfl | rfl
  try simp only [Act.put]
  refine wpAnyH_take (i := 5) (v := ?v39) rfl (by kernel_rfl) (by kernel_rfl) (by kernel_rfl) (fun _ _ _ h => h) (.inl ⟨by kernel_rfl, ?y39⟩) hT2 ?_
  case y39 =>
    rintro w' ⟨s0, s1⟩
    go_simp
    try simp only [eN, wN]
    first | done | with_reducible rfl | rfl
  try simp only [Act.put]
  refine wpAnyH_take (i := 6) (v := ?v40) rfl (by kernel_rfl) (by kernel_rfl) (by kernel_rfl) (fun _ _ _ h => h) (.inl ⟨by kernel_rfl, ?y40⟩) hT2 ?_
  case y40 =>
    rintro w' ⟨s0, s1⟩
    go_simp
    try simp only [eN, wN]
    first | done | with_reducible rfl | rfl
  try simp only [Act.put]
  refine wpAnyH_take (i := 7) (v := ?v41) rfl (by kernel_rfl) (by kernel_rfl) (by kernel_rfl) (fun _ _ _ h => h) (.inl ⟨by kernel_rfl, ?y41⟩) hT2 ?_
  case y41 =>
    rintro w' ⟨s0, s1⟩
    go_simp
    try simp only [eN, wN]
    first | done | with_reducible rfl | rfl
  try simp only [Act.put]
  refine wpAnyH_take (i := 8) (v := ?v42) rfl (by kernel_rfl) (by kernel_rfl) (by kernel_rfl) (fun _ _ _ h => h) (.inl ⟨by kernel_rfl, ?y42⟩) hT2 ?_
  case y42 =>
    rintro w' ⟨s0, s1⟩
    go_simp
    try simp only [eN, wN]
    first | done | with_reducible rfl | rfl
  try simp only [Act.put]
  refine held_one (i := 9) (by kernel_rfl) rfl (by kernel_rfl) ?_
  unfold Oper.wp
  go_simp
  refine ⟨hT3 _, ?_⟩
  try simp only [Act.put]
  refine wpAnyH_take (i := 10) (v := ?v43) rfl (by kernel_rfl) (by kernel_rfl) (by kernel_rfl) (fun _ _ _ h => h) (.inl ⟨by kernel_rfl, ?y43⟩) (hT3 _) ?_
  case y43 =>
    rintro w' ⟨s0, s1⟩
    go_simp
    first | done | with_reducible rfl | rfl
  try simp only [Act.put]
  refine held_done (by kernel_rfl) ?_
  go_simp
  clear hT2 hT3
  have g2 := World.rowIs_made w2 (.int .u8 0) N 5
  rw [hz2'] at g2
  replace g1 := World.rowIs.alloc g1 (.cells (madeCells #[.int .u8 0] N) 5)
  replace hB := (hB.alloc (by omega) (.cells (madeCells #[.int .u8 0] N) 5)).drew
  replace hS := (hS.below (below_a1 w2 (.cells (madeCells #[.int .u8 0] N) 5))).drew
  have hz3 : (w2.alloc (.cells (madeCells #[.int .u8 0] N) 5)).drew.heap.size = w.heap.size + 3 := by
    show (w2.alloc (.cells (madeCells #[.int .u8 0] N) 5)).heap.size = _
    simp [hz2']
  have G1 : BR (w2.alloc (.cells (madeCells #[.int .u8 0] N) 5)).drew (w.heap.size + 1) m (stp t a l 0) := World.rowIs.congr g1 (fun j _ => by rw [stp_zero]; rfl)
  have G2 : BR (w2.alloc (.cells (madeCells #[.int .u8 0] N) 5)).drew (w.heap.size + 2) N (fun _ => 0) := World.rowIs.congr g2 (fun _ _ => rfl)
  clear g1 g2 hmk
  generalize (w2.alloc (.cells (madeCells #[.int .u8 0] N) 5)).drew = w3 at *
  have hP := ps_start (hi := w.heap.size + 3) hT hB hS (by omega)
  have c4 := hS.c4
  have HI : Hid (RnRel A B n m c d t b w.heap.size N a l w (.int .i64 0) w3) := ⟨0, Nat.zero_le _, rfl, hP, G1, _, G2, fun r' k h => by omega⟩
  clear hP hS hB G1 G2 hz hz2' hz3 hT
  go_wp2_with fail
  go_loopw [36] (fun i wr => RnRel A B n m c d t b w.heap.size N a l w i wr) (fun i _ => upN n t - (intOf i).toNat)
  case atStart => exact HI.out
  case round =>
    clear HI c4
    obtain ⟨r, hr, rfl, hP, rG, sF, rS, hsF⟩ := hrel
    by_cases hlt : r < upN n t
    · obtain ⟨X, hX⟩ : ∃ X, r * upN m t = X := ⟨_, rfl⟩
      obtain ⟨Y, hY⟩ : ∃ Y, X + upN m t = Y := ⟨_, rfl⟩
      have e1 : (r : Int) * ((upN m t : Nat) : Int) = (X : Int) := by rw [← hX]; simp
      have e2 : ((r : Int) + 1) * ((upN m t : Nat) : Int) = (Y : Int) := by
        rw [Int.add_mul, Int.one_mul, e1, ← hY]
        simp
      have hXN : X + upN m t ≤ N := by
        have := Nat.mul_le_mul_right (upN m t) (show r + 1 ≤ upN n t from hlt)
        rw [Nat.add_mul, Nat.one_mul, hX, HNN.out] at this
        exact this
      have w1' : IntKind.i64.wrap (X : Int) = (X : Int) := IntWalk.i64_in _ (by omega)
      have w2' : IntKind.i64.wrap (Y : Int) = (Y : Int) := IntWalk.i64_in _ (by omega)
      have w3' : IntKind.i64.wrap ((r : Int) + 1) = (r : Int) + 1 := IntWalk.i64_in _ (by omega)
      obtain ⟨C, cS, hs, hcS, hC⟩ := sliceB (some ⟨w.heap.size + 2, 0, none⟩) N N X Y (by omega) (by omega)
      rw [show Y - X = upN m t by omega] at hs hcS
      have hC' : 0 < upN m t → C = some ⟨w.heap.size + 2, X, none⟩ := fun h => by
        rw [hC (by omega)]
        show some (Addr.add _ _) = _
        rw [Addr.add_lit, Nat.zero_add]
      have hP' := hP.drew
      have HC := Lib.hid (pass_any A B n m c d t b w.heap.size w.heap.size (w.heap.size + 3) (w.heap.size + 1) (w.heap.size + 2) X N r cS a l C sF w wr.drew ht rfl hbl ⟨by omega, by omega⟩ ⟨by omega, by omega⟩ ⟨by omega, by omega⟩ (by omega) (by omega) (by omega) HN.out HM.out hb hb' hc hd ra rb hlt hC' hXN hP' rG.drew rS.drew)
      have HMix : Hid (∀ r' k, r' < r + 1 → k < upN m t → sMix t a l r X (upN m t) sF (r' * upN m t + k) = sdN t a l r' k) := by
        show ∀ r' k, _ → _ → _
        rw [← hX]
        exact sMix_all hsF
      have hS5 : RnS w.heap.size (upN m t) wr.drew := hP'.2.1.c5
      clear hP rG rS hP' hC hC' hX hsF hcS hY hXN
      go_wp2_with fail
      refine wp_region_held (S := RnS w.heap.size (upN m t)) hmx ?_
      refine wpAnyH_take (i := 0) (v := ?v44) rfl (by kernel_rfl) (by kernel_rfl) (by kernel_rfl) (fun _ _ _ h => h) (.inl ⟨by kernel_rfl, ?y44⟩) hS5 ?_
      case y44 =>
        rintro w' s0
        unfold RnS at s0
        go_simp
        try simp only [e1, e2, w1', w2', w3']
        first | done | with_reducible rfl | rfl
      try simp only [Act.put]
      refine wpAnyH_take (i := 1) (v := ?v45) rfl (by kernel_rfl) (by kernel_rfl) (by kernel_rfl) (fun _ _ _ h => h) (.inl ⟨by kernel_rfl, ?y45⟩) hS5 ?_
      case y45 =>
        rintro w' s0
        unfold RnS at s0
        go_simp
        try simp only [e1, e2, w1', w2', w3']
        first | done | with_reducible rfl | rfl
      try simp only [Act.put]
      refine wpAnyH_take (i := 2) (v := ?v46) rfl (by kernel_rfl) (by kernel_rfl) (by kernel_rfl) (fun _ _ _ h => h) (.inl ⟨by kernel_rfl, ?y46⟩) hS5 ?_
      case y46 =>
        rintro w' s0
        unfold RnS at s0
        go_simp
        try simp only [e1, e2, w1', w2', w3']
        first | done | with_reducible rfl | rfl
      try simp only [Act.put]
      refine wpAnyH_take (i := 3) (v := ?v47) rfl (by kernel_rfl) (by kernel_rfl) (by kernel_rfl) (fun _ _ _ h => h) (.inl ⟨by kernel_rfl, ?y47⟩) hS5 ?_
      case y47 =>
        rintro w' s0
        unfold RnS at s0
        go_simp
        try simp only [e1, e2, w1', w2', w3']
        first | done | with_reducible rfl | rfl
      try simp only [Act.put]
      refine wpAnyH_take (i := 4) (v := ?v48) rfl (by kernel_rfl) (by kernel_rfl) (by kernel_rfl) (fun _ _ _ h => h) (.inl ⟨by kernel_rfl, ?y48⟩) hS5 ?_
      case y48 =>
        rintro w' s0
        unfold RnS at s0
        go_simp
        try simp only [e1, e2, w1', w2', w3']
        first | done | with_reducible rfl | rfl
      try simp only [Act.put]
      refine wpAnyH_take (i := 5) (v := ?v49) rfl (by kernel_rfl) (by kernel_rfl) (by kernel_rfl) (fun _ _ _ h => h) (.inl ⟨by kernel_rfl, ?y49⟩) hS5 ?_
      case y49 =>
        rintro w' s0
        unfold RnS at s0
        go_simp
        try simp only [e1, e2, w1', w2', w3']
        first | done | with_reducible rfl | rfl
      try simp only [Act.put]
      refine wpAnyH_take (i := 6) (v := ?v50) rfl (by kernel_rfl) (by kernel_rfl) (by kernel_rfl) (fun _ _ _ h => h) (.inl ⟨by kernel_rfl, ?y50⟩) hS5 ?_
      case y50 =>
        rintro w' s0
        unfold RnS at s0
        go_simp
        try simp only [e1, e2, w1', w2', w3']
        first | done | with_reducible rfl | rfl
      try simp only [Act.put]
      refine wpAnyH_take (i := 7) (v := ?v51) rfl (by kernel_rfl) (by kernel_rfl) (by kernel_rfl) (fun _ _ _ h => h) (.inl ⟨by kernel_rfl, ?y51⟩) hS5 ?_
      case y51 =>
        rintro w' s0
        unfold RnS at s0
        go_simp
        try simp only [e1, e2, w1', w2', w3']
        first | done | with_reducible rfl | rfl
      try simp only [Act.put]
      refine wpAnyH_take (i := 8) (v := ?v52) rfl (by kernel_rfl) (by kernel_rfl) (by kernel_rfl) (fun _ _ _ h => h) (.inl ⟨by kernel_rfl, ?y52⟩) hS5 ?_
      case y52 =>
        rintro w' s0
        unfold RnS at s0
        go_simp
        try simp only [e1, e2, w1', w2', w3']
        first | done | with_reducible rfl | rfl
      try simp only [Act.put]
      refine wpAnyH_take (i := 9) (v := ?v53) rfl (by kernel_rfl) (by kernel_rfl) (by kernel_rfl) (fun _ _ _ h => h) (.inl ⟨by kernel_rfl, ?y53⟩) hS5 ?_
      case y53 =>
        rintro w' s0
        unfold RnS at s0
        go_simp
        try simp only [e1, e2, w1', w2', w3']
        first | done | with_reducible rfl | rfl
      try simp only [Act.put]
      refine wpAnyH_take (i := 10) (v := ?v54) rfl (by kernel_rfl) (by kernel_rfl) (by kernel_rfl) (fun _ _ _ h => h) (.inl ⟨by kernel_rfl, ?y54⟩) hS5 ?_
      case y54 =>
        rintro w' s0
        unfold RnS at s0
        go_simp
        try simp only [e1, e2, w1', w2', w3']
        first | done | with_reducible rfl | rfl
      try simp only [Act.put]
      refine wpAnyH_take (i := 11) (v := ?v55) rfl (by kernel_rfl) (by kernel_rfl) (by kernel_rfl) (fun _ _ _ h => h) (.inl ⟨by kernel_rfl, ?y55⟩) hS5 ?_
      case y55 =>
        rintro w' s0
        unfold RnS at s0
        go_simp
        try simp only [e1, e2, w1', w2', w3']
        first | done | with_reducible rfl | rfl
      try simp only [Act.put]
      refine wpAnyH_take (i := 12) (v := ?v56) rfl (by kernel_rfl) (by kernel_rfl) (by kernel_rfl) (fun _ _ _ h => h) (.inl ⟨by kernel_rfl, ?y56⟩) hS5 ?_
      case y56 =>
        rintro w' s0
        unfold RnS at s0
        go_simp
        try simp only [e1, e2, w1', w2', w3']
        first | done | with_reducible rfl | rfl
      try simp only [Act.put]
      refine wpAnyH_take (i := 13) (v := ?v57) rfl (by kernel_rfl) (by kernel_rfl) (by kernel_rfl) (fun _ _ _ h => h) (.inl ⟨by kernel_rfl, ?y57⟩) hS5 ?_
      case y57 =>
        rintro w' s0
        unfold RnS at s0
        go_simp
        try simp only [e1, e2, w1', w2', w3']
        first | done | with_reducible rfl | rfl
      try simp only [Act.put]
      refine wpAnyH_take (i := 14) (v := ?v58) rfl (by kernel_rfl) (by kernel_rfl) (by kernel_rfl) (fun _ _ _ h => h) (.inl ⟨by kernel_rfl, ?y58⟩) hS5 ?_
      case y58 =>
        rintro w' s0
        unfold RnS at s0
        go_simp
        try simp only [e1, e2, w1', w2', w3']
        first | done | with_reducible rfl | rfl
      try simp only [Act.put]
      refine wpAnyH_take (i := 15) (v := ?v59) rfl (by kernel_rfl) (by kernel_rfl) (by kernel_rfl) (fun _ _ _ h => h) (.inl ⟨by kernel_rfl, ?y59⟩) hS5 ?_
      case y59 =>
        rintro w' s0
        unfold RnS at s0
        go_simp
        try simp only [e1, e2, w1', w2', w3']
        first | done | with_reducible rfl | rfl
      try simp only [Act.put]
      refine wpAnyH_take (i := 16) (v := ?v60) rfl (by kernel_rfl) (by kernel_rfl) (by kernel_rfl) (fun _ _ _ h => h) (.inl ⟨by kernel_rfl, ?y60⟩) hS5 ?_
      case y60 =>
        rintro w' s0
        unfold RnS at s0
        go_simp
        try simp only [e1, e2, w1', w2', w3']
        first | done | with_reducible rfl | rfl
      try simp only [Act.put]
      refine wpAnyH_take (i := 17) (v := .slice C (upN m t) cS) rfl (by kernel_rfl) (by kernel_rfl) (by kernel_rfl) (fun _ _ _ h => h) (.inl ⟨by kernel_rfl, ?sl⟩) hS5 ?_
      case sl =>
        rintro w' s0
        go_simp
        first | done | rfl
      try simp only [Act.put]
      refine held_one (i := 18) (by kernel_rfl) rfl (by kernel_rfl) ?_
      unfold Oper.wp
      go_simp
      refine (HC.out).mono ?_
      rintro e w5 ⟨rfl, hP, rG, rS⟩
      have hS6 : RnS w.heap.size (upN m t) w5 := hP.2.1.c5
      have R : Hid (RnRel A B n m c d t b w.heap.size N a l w (.int .i64 ((r + 1 : Nat) : Int)) w5) := ⟨r + 1, hlt, rfl, hP, rG, _, rS, HMix.out⟩
      clear hP rG rS HC HMix hs hS5
      refine ⟨hS6, ?_⟩
      try simp only [Act.put]
      refine held_done (by kernel_rfl) ?_
      go_simp
      clear hS6
      go_wp2_with fail
      go_roundw
      case rel => exact R.out
      case measure => simp [intOf]; omega
    · obtain rfl : r = upN n t := by omega
      have hB := Lib.hid (back_any A B n m c d t b w.heap.size (w.heap.size + 2) a l sF wr.drew ht HN.out HM.out hb hb' hc hd (ra.grown hP.drew.1) (rb.grown hP.drew.1) hP.drew.2.1 (by rw [HNN.out]; exact rS.drew) hsF)
      rw [HNN.out] at hB
      have hP' := hP.drew
      have hT5 : RnT w.heap.size (upN n t) (upN m t) wr.drew := ⟨hP'.2.1.c4, hP'.2.1.c5⟩
      clear hP rG rS hsF
      go_wp2_with fail
      refine wp_region_held (S := RnT w.heap.size (upN n t) (upN m t)) hmx ?_
      refine wpAnyH_take (i := 0) (v := ?v61) rfl (by kernel_rfl) (by kernel_rfl) (by kernel_rfl) (fun _ _ _ h => h) (.inl ⟨by kernel_rfl, ?y61⟩) hT5 ?_
      case y61 =>
        rintro w' ⟨s0, s1⟩
        go_simp
        try simp only [eN, wN]
        first | done | with_reducible rfl | rfl
      try simp only [Act.put]
      refine wpAnyH_take (i := 1) (v := ?v62) rfl (by kernel_rfl) (by kernel_rfl) (by kernel_rfl) (fun _ _ _ h => h) (.inl ⟨by kernel_rfl, ?y62⟩) hT5 ?_
      case y62 =>
        rintro w' ⟨s0, s1⟩
        go_simp
        try simp only [eN, wN]
        first | done | with_reducible rfl | rfl
      try simp only [Act.put]
      refine wpAnyH_take (i := 3) (v := ?v63) rfl (by kernel_rfl) (by kernel_rfl) (by kernel_rfl) (fun _ _ _ h => h) (.inl ⟨by kernel_rfl, ?y63⟩) hT5 ?_
      case y63 =>
        rintro w' ⟨s0, s1⟩
        go_simp
        try simp only [eN, wN]
        first | done | with_reducible rfl | rfl
      try simp only [Act.put]
      refine wpAnyH_take (i := 4) (v := ?v64) rfl (by kernel_rfl) (by kernel_rfl) (by kernel_rfl) (fun _ _ _ h => h) (.inl ⟨by kernel_rfl, ?y64⟩) hT5 ?_
      case y64 =>
        rintro w' ⟨s0, s1⟩
        go_simp
        try simp only [eN, wN]
        first | done | with_reducible rfl | rfl
      try simp only [Act.put]
      refine wpAnyH_take (i := 5) (v := ?v65) rfl (by kernel_rfl) (by kernel_rfl) (by kernel_rfl) (fun _ _ _ h => h) (.inl ⟨by kernel_rfl, ?y65⟩) hT5 ?_
      case y65 =>
        rintro w' ⟨s0, s1⟩
        go_simp
        try simp only [eN, wN]
        first | done | with_reducible rfl | rfl
      try simp only [Act.put]
      refine wpAnyH_take (i := 6) (v := ?v66) rfl (by kernel_rfl) (by kernel_rfl) (by kernel_rfl) (fun _ _ _ h => h) (.inl ⟨by kernel_rfl, ?y66⟩) hT5 ?_
      case y66 =>
        rintro w' ⟨s0, s1⟩
        go_simp
        try simp only [eN, wN]
        first | done | with_reducible rfl | rfl
      try simp only [Act.put]
      refine wpAnyH_take (i := 7) (v := ?v67) rfl (by kernel_rfl) (by kernel_rfl) (by kernel_rfl) (fun _ _ _ h => h) (.inl ⟨by kernel_rfl, ?y67⟩) hT5 ?_
      case y67 =>
        rintro w' ⟨s0, s1⟩
        go_simp
        try simp only [eN, wN]
        first | done | with_reducible rfl | rfl
      try simp only [Act.put]
      refine wpAnyH_take (i := 8) (v := ?v68) rfl (by kernel_rfl) (by kernel_rfl) (by kernel_rfl) (fun _ _ _ h => h) (.inl ⟨by kernel_rfl, ?y68⟩) hT5 ?_
      case y68 =>
        rintro w' ⟨s0, s1⟩
        go_simp
        try simp only [eN, wN]
        first | done | with_reducible rfl | rfl
      try simp only [Act.put]
      refine wpAnyH_take (i := 9) (v := ?v69) rfl (by kernel_rfl) (by kernel_rfl) (by kernel_rfl) (fun _ _ _ h => h) (.inl ⟨by kernel_rfl, ?y69⟩) hT5 ?_
      case y69 =>
        rintro w' ⟨s0, s1⟩
        go_simp
        try simp only [eN, wN]
        first | done | with_reducible rfl | rfl
      try simp only [Act.put]
      refine wpAnyH_take (i := 10) (v := ?v70) rfl (by kernel_rfl) (by kernel_rfl) (by kernel_rfl) (fun _ _ _ h => h) (.inl ⟨by kernel_rfl, ?y70⟩) hT5 ?_
      case y70 =>
        rintro w' ⟨s0, s1⟩
        go_simp
        try simp only [eN, wN]
        first | done | with_reducible rfl | rfl
      try simp only [Act.put]
      refine wpAnyH_take (i := 11) (v := ?v71) rfl (by kernel_rfl) (by kernel_rfl) (by kernel_rfl) (fun _ _ _ h => h) (.inl ⟨by kernel_rfl, ?y71⟩) hT5 ?_
      case y71 =>
        rintro w' ⟨s0, s1⟩
        go_simp
        try simp only [eN, wN]
        first | done | with_reducible rfl | rfl
      try simp only [Act.put]
      refine held_one (i := 2) (by kernel_rfl) rfl (by kernel_rfl) ?_
      unfold Oper.wp
      go_simp
      refine (hB.out).mono ?_
      rintro e w6 ⟨R, ⟨h1, h2⟩, v, rfl, h3, h4⟩
      have hP6 := hP'.below h4
      have hT6 : RnT w.heap.size (upN n t) (upN m t) w6 := ⟨hP6.2.1.c4, hP6.2.1.c5⟩
      have HF := Lib.hid (fun w' (e : w' = w6) => HQ.out R v w' h1 h2 (by rw [e]; exact own_lowerS h3 hP'.1.size) (by rw [e]; exact hP6.til) (by rw [e]; exact hP6.1))
      clear hB hT5 hP' hP6 h1 h2 h3 h4
      refine ⟨hT6, ?_⟩
      try simp only [Act.put]
      refine wpAnyH_take (i := 12) (v := ?v72) rfl (by kernel_rfl) (by kernel_rfl) (by kernel_rfl) (fun _ _ _ h => h) (.inl ⟨by kernel_rfl, ?y72⟩) hT6 ?_
      case y72 =>
        rintro w' ⟨s0, s1⟩
        go_simp
        first | done | with_reducible rfl | rfl
      try simp only [Act.put]
      refine wpAnyH_take (i := 13) (v := ?v73) rfl (by kernel_rfl) (by kernel_rfl) (by kernel_rfl) (fun _ _ _ h => h) (.inl ⟨by kernel_rfl, ?y73⟩) hT6 ?_
      case y73 =>
        rintro w' ⟨s0, s1⟩
        go_simp
        first | done | with_reducible rfl | rfl
      try simp only [Act.put]
      refine wpAnyH_take (i := 14) (v := ?v74) rfl (by kernel_rfl) (by kernel_rfl) (by kernel_rfl) (fun _ _ _ h => h) (.inl ⟨by kernel_rfl, ?y74⟩) hT6 ?_
      case y74 =>
        rintro w' ⟨s0, s1⟩
        go_simp
        first | done | with_reducible rfl | rfl
      try simp only [Act.put]
      refine held_done (by kernel_rfl) ?_
      go_simp
      go_wp2_with fail
      go_ret3
      exact HF.out _ rfl

end Go.Proofs.Ytdedmmeefffpkaa

namespace Go.Proofs.Ytdedmmeefffpkaa
open Go.RowKit

section
variable {b b' t t' B n : Nat} {w w' : World} {A : Option Addr} {us : List Value}
theorem RowN.below (h : RowN b w A us) (hb : Below w.heap.size w w') : RowN b w' A us := h.grown (below_grown hb (some b))
theorem rowN_old (h : Row w A us) (hb : w.heap.size ≤ b) : RowN b w A us := ⟨h, fun hne ad e => by
  obtain ⟨g, o, e', hc⟩ := h hne
  rw [e'] at e
  cases e
  cases us with
  | nil => exact absurd rfl hne
  | cons u us =>
    have := World.block_lt_of_cell? _ _ (hc 0 u rfl)
    simp only at this ⊢
    omega⟩
theorem own_rowN {e : TypeId} {v : Value} (h : w.ownsRow B e 1 v n us) : ∃ A c, v = .slice A n c ∧ n ≤ c ∧ ∀ b, b < B → RowN b w A us := by
  have h2 := h
  obtain ⟨A, c, rfl, h3, _, h5, _⟩ := own_slice h2
  refine ⟨A, c, rfl, h3, fun b hb => ⟨h5, fun hne ad e => ?_⟩⟩
  rcases h.2 with ⟨hv, h0⟩ | ⟨g, cap, cur, hv, hg, _⟩
  · cases hv
    cases e
  · simp only [Value.slice.injEq] at hv
    rw [hv.1] at e
    cases e
    simp only
    omega
theorem rowN_of (h : RowN b w' A us) (h' : RowN b' w A us) : RowN b' w' A us := ⟨h.1, h'.2⟩
theorem til_block (h : Til t b w) : ∃ c, w.heap[b]? = some (.cells c 66 (0, 0)) := by
  rcases h with ⟨v0, c, h, _⟩ | ⟨g, ⟨c, h, _⟩, _⟩
  · exact ⟨c, h⟩
  · exact ⟨c, h⟩
/-- Another object's call leaves this one as it is. -/
theorem TilX.apart (h : Til t b w) (h' : Til t' b' w) (hne : b ≠ b') (hg : w.grownBy w' (some b')) : Til t b w' := by
  obtain ⟨c', hc'⟩ := til_block h'
  rcases h with ⟨v0, h⟩ | ⟨g, h1, h2, h3, h4⟩
  · exact .inl ⟨v0, h.grown hg (fun e => hne (by injection e))⟩
  · refine .inr ⟨g, h1.grown hg (fun e => hne (by injection e)), rowIs_grown h2 hg (fun e => ?_), h3, h4⟩
    obtain ⟨c, hc, _⟩ := h2
    injection e with e
    rw [e, hc'] at hc
    simp only [Option.some.injEq, Obj.cells.injEq] at hc
    exact absurd hc.2.1 (by decide)
end

theorem len_w (t b : Nat) (A B : Option Addr) (n m c d : Nat) (a l : List Int) (w0 w : World) (ht : 1 ≤ t ∧ t ≤ 3) (hn : a.length = n) (hm : l.length = m) (hb : n ≤ 1048576) (hb' : m ≤ 1048576) (hc : n ≤ c) (hd : m ≤ d)
    (ra : RowN b w A (iv a)) (rb : RowN b w B (iv l)) (hT : Til t b w) (bb : Below w0.heap.size w0 w) (h0 : w0.heap.size ≤ b) :
    Calls Try.prog 9 #[.pointer (some ⟨b, 0, none⟩), .slice A n c, .slice B m d] w fun e w' => e = .returned (.tuple #[.int .i64 (lcs a l : Nat), .int .i64 0]) ∧ Til t b w' ∧ Below w0.heap.size w0 w' ∧ w.grownBy w' (some b) := by
  refine (plenR_any A B n m c d t b a l w ht hn hm hb hb' hc hd ra rb hT).mono fun e w' h => ?_
  obtain ⟨h1, h2, h3⟩ := h
  exact ⟨h1, h2, bb.grown h3 bb.size (fun k e => by cases e; exact h0), h3⟩
theorem run_w (t b : Nat) (A B : Option Addr) (n m c d : Nat) (a l : List Int) (w0 w : World) (ht : 1 ≤ t ∧ t ≤ 3) (hn : a.length = n) (hm : l.length = m) (hb : n ≤ 1048576) (hb' : m ≤ 1048576) (hc : n ≤ c) (hd : m ≤ d)
    (ra : RowN b w A (iv a)) (rb : RowN b w B (iv l)) (hT : Til t b w) (bb : Below w0.heap.size w0 w) (h0 : w0.heap.size ≤ b) :
    Calls Try.prog 10 #[.pointer (some ⟨b, 0, none⟩), .slice A n c, .slice B m d] w fun e w' => ∃ (R : List Pr) (V : Option Addr) (cR : Nat), e = .returned (.tuple #[.slice V (lcs a l) cR, .int .i64 (upN n t * upN m t : Nat), .int .i64 0]) ∧ (goodB a l R = true ∧ R.length = lcs a l) ∧ Row w' V (pv R) ∧ Til t b w' ∧ Below w0.heap.size w0 w' ∧ w.grownBy w' (some b) := by
  refine (prunR_any A B n m c d t b a l w ht hn hm hb hb' hc hd ra rb hT).mono fun e w' h => ?_
  obtain ⟨R, v, h1, h2, h3, h4, h5, h6⟩ := h
  rw [h3] at h4
  obtain ⟨V, cR, rfl, _, _, h7, _⟩ := own_sliceS h4
  exact ⟨R, V, cR, h1, ⟨h2, h3⟩, h7, h5, bb.grown h6 bb.size (fun k e => by cases e; exact h0), h6⟩

set_option maxRecDepth 100000 in
theorem len_nil (A B : Option Addr) (n m c d : Nat) (w : World) : Calls Try.prog 9 #[.pointer none, .slice A n c, .slice B m d] w fun e w' => e = .returned (.tuple #[.int .i64 0, .int .i64 1]) ∧ w = w' := by
  go_enter Try.func9, Try.ntmps9
  go_wp2_with fail
  go_ret2
  exact ⟨rfl, rfl⟩
set_option maxRecDepth 100000 in
theorem run_nil (A B : Option Addr) (n m c d : Nat) (w : World) : Calls Try.prog 10 #[.pointer none, .slice A n c, .slice B m d] w fun e w' => e = .returned (.tuple #[.slice none 0 0, .int .i64 0, .int .i64 1]) ∧ w = w' := by
  go_enter Try.func10, Try.ntmps10
  go_wp2_with fail
  go_ret3
  exact ⟨rfl, rfl⟩

set_option maxRecDepth 100000 in
set_option maxHeartbeats 800000 in
theorem squares_any (n m t : Nat) (w : World) (hn : n ≤ 1048576) (hm : m ≤ 1048576) (ht : 1 ≤ t ∧ t ≤ 3) :
    Calls Try.prog 14 #[.int .i64 (n : Int), .int .i64 (m : Int), .int .i64 (t : Int)] w fun e w' => e = .returned (.int .i64 (upN n t * upN m t : Nat)) ∧ ∃ q, w' = w.drewN q := by
  have e1 := up_quo (n := n) ht.1
  have e2 := up_quo (n := m) ht.1
  have f1 := upN_small (n := n) ht.1
  have f2 := upN_small (n := m) ht.1
  have hz : ((t : Int) == 0) = false := by simp; omega
  have w1 : IntKind.i64.wrap ((upN n t : Nat) : Int) = ((upN n t : Nat) : Int) := IntWalk.i64_in _ (by omega)
  have w2 : IntKind.i64.wrap ((upN m t : Nat) : Int) = ((upN m t : Nat) : Int) := IntWalk.i64_in _ (by omega)
  obtain ⟨N, hN⟩ : ∃ N, upN n t * upN m t = N := ⟨_, rfl⟩
  have eN : ((upN n t : Nat) : Int) * ((upN m t : Nat) : Int) = (N : Int) := by rw [← hN]; simp
  have hN40 : N ≤ 1099511627776 := by rw [← hN]; exact Nat.mul_le_mul (show upN n t ≤ 1048576 by omega) (show upN m t ≤ 1048576 by omega)
  have w3 : IntKind.i64.wrap (N : Int) = (N : Int) := IntWalk.i64_in _ (by omega)
  rw [hN]
  clear hN
  generalize upN n t = u at *
  generalize upN m t = v at *
  go_enter Try.func14, Try.ntmps14
  go_wp2_with fail
  go_quiet (fail)
  go_wp2_with fail
  go_ret
  exact ⟨rfl, nq, rfl⟩

set_option maxRecDepth 100000 in
set_option maxHeartbeats 800000 in
theorem of14_any (t : Int) (k : Nat) (w : World) (ht : 0 ≤ t ∧ t ≤ 255) (hk : k < 3) (hkt : t.tmod 3 = (k : Int)) : Calls Try.prog 7 #[.int .u8 t] w fun e w' => ∃ b, e = .returned (.pointer (some ⟨b, 0, none⟩)) ∧ Til (1 + k) b w' ∧ w.heap.size ≤ b ∧ Below w.heap.size w w' := by
  obtain ⟨s, hs⟩ : ∃ s, 1 + k = s := ⟨_, rfl⟩
  have es : (1 : Int) + (k : Int) = (s : Int) := by omega
  have HN := Lib.hid (new_ok s w (by omega))
  have wt : IntKind.i64.wrap t = t := IntWalk.i64_in _ (by omega)
  rw [hs]
  clear hs
  go_enter Try.func7, Try.ntmps7
  go_wp2_with fail
  refine HN.out.mono ?_
  rintro e w1 ⟨b, rfl, h1, h2, h3⟩
  have HQ : Hid (∃ b', Ending.returned (.pointer (some ⟨b, 0, none⟩)) = .returned (.pointer (some ⟨b', 0, none⟩)) ∧ Til s b' w1 ∧ w.heap.size ≤ b' ∧ Below w.heap.size w w1) := ⟨b, rfl, .inl ⟨_, h1⟩, h2, h3⟩
  clear h1 h2 h3 HN
  go_wp2_with fail
  go_ret
  exact HQ.out

end Go.Proofs.Ytdedmmeefffpkaa

namespace Go.Proofs.Ytdedmmeefffpkaa
open Go.RowKit

theorem litN {b : Nat} {w1 : World} {d : Nat} {us : List Value} (h : Row w1 (some ⟨d, 0, none⟩) us) (hb : b < d) : RowN b w1 (some ⟨d, 0, none⟩) us := ⟨h, fun _ ad e => by cases e; show d ≠ b; omega⟩

set_option maxRecDepth 100000 in
set_option maxHeartbeats 1600000 in
theorem awake14 (w : World) : Calls Try.prog 8 #[] w (Yes w) := by
  go_enter Try.func8, Try.ntmps8
  go_wp2_with fail
  refine (of14_any 1 1 _ (by decide) (by decide) (by decide)).mono ?_
  rintro e w1 ⟨b, rfl, hT, h0, bb⟩
  have hbs := hT.lt
  have rR : ∀ us vs : List Value, Below w1.heap.size w1 ((w1.alloc (.cells us.toArray 3)).alloc (.cells vs.toArray 3)) := fun _ _ => below_al (below_al (Below.refl _ _) _) _
  go_wp2_with fail
  refine (run_w 2 b _ _ 3 5 _ _ [1, 2, 3] [1, 9, 2, 8, 3] w _ (by decide) rfl rfl (by decide) (by decide) (by decide) (by decide) (litN ((row_lit (iv [1, 2, 3]) 3 (by simp)).alloc _) hbs) (litN (row_lit (iv [1, 9, 2, 8, 3]) 3 (by simp)) (by omega)) (hT.below (rR (iv [1, 2, 3]) (iv [1, 9, 2, 8, 3]))) (below_go bb (rR (iv [1, 2, 3]) (iv [1, 9, 2, 8, 3]))) h0).mono ?_
  rintro e w2 ⟨R, V, cR, rfl, _, _, hT, bb, _⟩
  rw [show lcs [1, 2, 3] [1, 9, 2, 8, 3] = 3 by decide +kernel, show upN 3 2 * upN 5 2 = 6 by decide]
  clear rR hbs
  have hbs := hT.lt
  have rR : ∀ us vs : List Value, Below w2.heap.size w2 ((w2.alloc (.cells us.toArray 3)).alloc (.cells vs.toArray 3)) := fun _ _ => below_al (below_al (Below.refl _ _) _) _
  go_wp2_with fail
  refine (len_w 2 b _ _ 3 3 _ _ [1, 2, 3] [3, 2, 1] w _ (by decide) rfl rfl (by decide) (by decide) (by decide) (by decide) (litN ((row_lit (iv [1, 2, 3]) 3 (by simp)).alloc _) hbs) (litN (row_lit (iv [3, 2, 1]) 3 (by simp)) (by omega)) (hT.below (rR (iv [1, 2, 3]) (iv [3, 2, 1]))) (below_go bb (rR (iv [1, 2, 3]) (iv [3, 2, 1]))) h0).mono ?_
  rintro e w3 ⟨rfl, _, bb, _⟩
  rw [show lcs [1, 2, 3] [3, 2, 1] = 1 by decide +kernel]
  go_wp2_with fail
  go_ret
  exact Yes.of bb

end Go.Proofs.Ytdedmmeefffpkaa
