/-
  Words and contracts that the proof leans on.
-/
import Derived.Test.YtncbhnmhaoblaaaM24
import Derived.Test.YtncbhnmhaoblaaaM40
import Derived.Test.YtncbhnmhaoblaaaM33
import Derived.Test.YtncbhnmhaoblaaaM41
namespace Go.Proofs.Ytncbhnmhaoblaaa
open Go.RowKit

/-- The heads of the rounds. -/
def RyRel (a b : List Int) (n m : Nat) (w1 : World) (v i j : Value) (wr : World) : Prop :=
  ∃ (I J : Nat) (l : List Pr), i = .int .i64 (I : Int) ∧ I ≤ n ∧ j = .int .i64 (J : Int) ∧ J ≤ m ∧ l.length + J ≤ m ∧ Hid (wayL a b n m = wayL a b I J ++ l.reverse) ∧ wr.ownsRow w1.heap.size 29 2 v l.length (pv l) ∧ Below w1.heap.size w1 wr
def RzRel (l : List Pr) (w2 : World) (v i : Value) (wr : World) : Prop :=
  ∃ (K : Nat) (kk : Int), K ≤ l.length ∧ i = .int .i64 kk ∧ kk = (K : Int) - 1 ∧ wr.ownsRow w2.heap.size 29 2 v (l.length - K) (pv (l.drop K).reverse) ∧ Below w2.heap.size w2 wr
theorem rz_done {l WL : List Pr} {w w2 wr : World} {v : Value} (h : WL = l.reverse) (hO : wr.ownsRow w2.heap.size 29 2 v (l.length - 0) (pv (l.drop 0).reverse)) (hB : Below w2.heap.size w2 wr) (hb : Below w.heap.size w w2) : MadeP WL w (.returned v) wr := by
  subst h
  rw [List.drop_zero, Nat.sub_zero] at hO
  exact ⟨_, rfl, by rw [List.length_reverse]; exact own_lowerS hO hb.size, below_go hb hB⟩
theorem rz_step {l : List Pr} {k : Nat} {q1 q2 : Int} {w2 wr w' : World} {v v' : Value} {o : Obj} (hk : k < l.length) (hd : l.drop k = (q1, q2) :: l.drop (k + 1)) (hO : wr.ownsRow w2.heap.size 29 2 v (l.length - (k + 1)) (pv (l.drop (k + 1)).reverse)) (hB : Below w2.heap.size w2 wr) (h1 : w'.ownsRow w2.heap.size 29 2 v' (l.length - (k + 1) + 1) (pv (l.drop (k + 1)).reverse ++ [.int .i64 q1, .int .i64 q2])) (hg : (wr.alloc o).grownBy w' v.ownBlock) : RzRel l w2 v' (.int .i64 ((k : Int) - 1)) w' := by
  refine ⟨k, _, by omega, rfl, rfl, ?_, (hB.alloc hB.size _).grown hg (by have := hB.size; simp; omega) (fun x hx => (hO.lt x hx).1)⟩
  rw [hd, List.reverse_cons, pv_append, show l.length - k = l.length - (k + 1) + 1 by omega]
  exact h1
theorem ry_done {a b : List Int} {n m I J : Nat} {l : List Pr} (h0 : I = 0 ∨ J = 0) (hw : wayL a b n m = wayL a b I J ++ l.reverse) : wayL a b n m = l.reverse := by
  rw [hw]
  rcases h0 with rfl | rfl
  · rw [way_top, List.nil_append]
  · rw [way_left, List.nil_append]
theorem ry_stay {a b : List Int} {n m I J i j : Nat} {v : Value} {w1 wr : World} {l : List Pr} (hIi : I = i + 1) (hJj : J = j + 1) (hv : vB a b (i + 1) j = true) (hI : I ≤ n) (hJ : J ≤ m) (hl : l.length + J ≤ m) (hw : wayL a b n m = wayL a b I J ++ l.reverse) (hO : wr.ownsRow w1.heap.size 29 2 v l.length (pv l)) (hB : Below w1.heap.size w1 wr) : RyRel a b n m w1 v (.int .i64 (I : Int)) (.int .i64 (j : Int)) wr := by
  subst hIi
  subst hJj
  exact ⟨i + 1, j, l, rfl, hI, rfl, by omega, by omega, by show _ = _; rw [hw, way_stay hv], hO, hB⟩
theorem ry_up {a b : List Int} {n m I J i j : Nat} {v : Value} {w1 wr : World} {l : List Pr} (hIi : I = i + 1) (hJj : J = j + 1) (hv : vB a b (i + 1) j = false) (ha : alikeAt a b i j = false) (hI : I ≤ n) (hJ : J ≤ m) (hl : l.length + J ≤ m) (hw : wayL a b n m = wayL a b I J ++ l.reverse) (hO : wr.ownsRow w1.heap.size 29 2 v l.length (pv l)) (hB : Below w1.heap.size w1 wr) : RyRel a b n m w1 v (.int .i64 (i : Int)) (.int .i64 (J : Int)) wr := by
  subst hIi
  subst hJj
  exact ⟨i, j + 1, l, rfl, by omega, rfl, hJ, hl, by show _ = _; rw [hw, way_up hv ha], hO, hB⟩
theorem ry_pair {a b : List Int} {n m I J i j : Nat} {v : Value} {w1 wr : World} {l : List Pr} (hIi : I = i + 1) (hJj : J = j + 1) (hv : vB a b (i + 1) j = false) (ha : alikeAt a b i j = true) (hI : I ≤ n) (hJ : J ≤ m) (hl : l.length + J ≤ m) (hw : wayL a b n m = wayL a b I J ++ l.reverse) (hO : wr.ownsRow w1.heap.size 29 2 v (l.length + 1) (pv l ++ [.int .i64 (i : Int), .int .i64 (j : Int)])) (hB : Below w1.heap.size w1 wr) : RyRel a b n m w1 v (.int .i64 (i : Int)) (.int .i64 (j : Int)) wr := by
  subst hIi
  subst hJj
  refine ⟨i, j, l ++ [((i : Int), (j : Int))], rfl, by omega, rfl, by omega, by simp; omega, by show _ = _; rw [hw, way_pair hv ha, List.reverse_append, List.append_assoc]; rfl, ?_, hB⟩
  rw [pv_append, List.length_append]
  exact hO

set_option maxRecDepth 100000 in
set_option maxHeartbeats 6400000 in
theorem rway_any (A B : Option Addr) (n m c d : Nat) (a b : List Int) (w : World) (hn : a.length = n) (hm : b.length = m) (hb : n ≤ 1048576) (hb' : m ≤ 1048576) (h1 : Row w A (iv a)) (h2 : Row w B (iv b)) :
    Calls Try.prog 16 #[.slice A n c, .slice B m d] w (MadeP (wayL a b n m) w) := by
  obtain ⟨i0, hi0, hz0, hz1, hz2⟩ := info_parts Try.infoPair
  have HT := Lib.hid (rahead_any A B n m c d a b w hn hm hb hb' h1 h2)
  have HAl : Hid (∀ (i j : Nat) (x y : Int), a[i]? = some x → b[j]? = some y → alikeAt a b i j = (x == y)) := fun i j x y h h' => by
    unfold alikeAt
    rw [h, h']
  have HW0 : Hid (∀ v (w1 wr : World), wr.ownsRow w1.heap.size 29 2 v 0 (pv []) → Below w1.heap.size w1 wr → RyRel a b n m w1 v (.int .i64 (n : Int)) (.int .i64 (m : Int)) wr) := fun v w1 wr g1 g2 => ⟨n, m, [], rfl, Nat.le_refl _, rfl, Nat.le_refl _, by simp, by show _ = _; simp, g1, g2⟩
  have HF0 : Hid (∀ (l : List Pr) (w2 wr : World) v, wayL a b n m = l.reverse → wr.ownsRow w2.heap.size 29 2 v (l.length - 0) (pv (l.drop 0).reverse) → Below w2.heap.size w2 wr → Below w.heap.size w w2 → MadeP (wayL a b n m) w (.returned v) wr) := fun l w2 wr v g1 g2 g3 g4 => rz_done g1 g2 g3 g4
  obtain ⟨Q, hQ⟩ : ∃ Q, MadeP (wayL a b n m) w = Q := ⟨_, rfl⟩
  rw [hQ] at HF0 ⊢
  clear hQ
  go_enter Try.func16, Try.ntmps16
  go_wp2_with fail
  refine HT.out.mono ?_
  rintro e w1 ⟨T, blk, rfl, hTs, hT, hb1⟩
  have h11 := h1.below hb1
  have h21 := h2.below hb1
  have HB1 := Lib.hid hb1
  clear HT h1 h2 hb1 hTs
  go_wp2_with fail
  go_loopw [6, 7, 8] (fun v i j wr => RyRel a b n m w1 v i j wr) (fun _ i j _ => (RowKit.intOf i).toNat + (RowKit.intOf j).toNat)
  case atStart => exact HW0.out _ _ _ (World.ownsRow_nil _ _ _ _) (Below.refl _ _)
  case round =>
    clear HW0
    obtain ⟨I, J, l, rfl, hI, rfl, hJ, hMl, HWy, hO, hB⟩ := hrel
    have hsz := hB.size
    by_cases h0 : I = 0 ∨ J = 0
    · have HE := Lib.hid (ry_done h0 HWy.out)
      have hlm : l.length ≤ 1048576 := by omega
      obtain ⟨LA, lc, rfl, _, _, rl, _⟩ := own_sliceS hO
      have HB2 := Lib.hid (below_go HB1.out hB)
      clear HWy hO HB1 HAl hMl h11 h21 hT
      have hor : I = 0 ∨ (0 < I ∧ J = 0) := by omega
      clear h0
      obtain ⟨w2, rfl⟩ : ∃ w2, w2 = wr := ⟨_, rfl⟩
      rcases hor with rfl | ⟨hIp, rfl⟩
      all_goals
        clear hI hJ
        go_wp2_with fail
        go_loopw [9, 10] (fun v i wx => RzRel l w2 v i wx) (fun _ i _ => (RowKit.intOf i + 1).toNat)
        case atStart => exact ⟨l.length, _, Nat.le_refl _, rfl, rfl, by rw [List.drop_length, Nat.sub_self]; exact World.ownsRow_nil _ _ _ _, Below.refl _ _⟩
        case round =>
          obtain ⟨K, kk, hK, rfl, hkk, hO, hBx⟩ := hrel
          have hszx := hBx.size
          by_cases hK0 : K = 0
          · subst hK0
            have hkz : ¬ (0 ≤ kk) := by omega
            have HF := Lib.hid (HF0.out l _ _ _ HE.out hO hBx HB2.out)
            clear HF0 HE hO hBx HB2 hkk rl
            go_wp2_with fail
            exact HF.out
          obtain ⟨k, rfl⟩ : ∃ k, K = k + 1 := ⟨K - 1, by omega⟩
          obtain rfl : kk = (k : Int) := by omega
          have hkl : k < l.length := by omega
          obtain ⟨gl, ol, rfl, p1, p2⟩ := (rl.below hBx).pair hkl
          have HDr := Lib.hid (List.drop_eq_getElem_cons hkl)
          generalize l[k] = q at *
          obtain ⟨q1, q2⟩ := q
          simp only at p1 p2
          clear hkk hK0
          go_wp2_with (at_builtin; refine wpList_append_own _ rfl (.tmp 74) (.tmp 79) 22 rfl w2.heap.size 29 i0 (.agg #[.int .i64 0, .int .i64 0]) 2 16 Try.underlying22 hi0 hz0 hz1 hz2 rfl (by decide) _ _ _ rfl (hO.alloc _) ⟨wr.heap.size, 0, none⟩ 1 1 [_, _] rfl rfl (pair_new _ _ _ _) (one_pair _ _) (by unfold maxLen; omega) (by omega) (by simp; omega) ?_)
          intro v' w' r1 r2 _
          have R := Lib.hid (rz_step hkl HDr.out hO hBx r1 r2)
          clear r1 r2 hO hBx HDr p1 p2
          go_wp2_with fail
          go_roundw
          case rel => first | exact R.out | ((repeat apply Exists.intro); exact ⟨R.out, rfl⟩)
          case measure => first | omega | (simp [RowKit.intOf] <;> omega)
    · have hI0 : (0 : Int) < (I : Int) := by omega
      have hJ0 : (0 : Int) < (J : Int) := by omega
      obtain ⟨i, hIi⟩ : ∃ i, I = i + 1 := ⟨I - 1, by omega⟩
      obtain ⟨j, hJj⟩ : ∃ j, J = j + 1 := ⟨J - 1, by omega⟩
      have z3 : (J : Int) - 1 = (j : Int) := by omega
      have z4 : (I : Int) - 1 = (i : Int) := by omega
      have t1 : IntKind.i64.wrap ((I : Int) - 1) = (i : Int) := by rw [z4]; exact IntWalk.i64_in _ (by omega)
      have t2 : IntKind.i64.wrap ((J : Int) - 1) = (j : Int) := by rw [z3]; exact IntWalk.i64_in _ (by omega)
      have hin : i < n := by omega
      have hjm : j < m := by omega
      have hjm1 : (j : Int) < (m : Int) + 1 := by omega
      have hJm1 : (J : Int) < (m : Int) + 1 := by omega
      have hIn1 : (I : Int) < (n : Int) + 1 := by omega
      have hIb : I ≤ 1048576 := by omega
      have hJb : J ≤ 1048576 := by omega
      have hMl' : l.length ≤ 1048576 := by omega
      have hlt1 := hin
      rw [← hn] at hlt1
      have hlt2 := hjm
      rw [← hm] at hlt2
      have hTx := hT.below hB
      have c1 : wr.cell? ⟨T, I, none⟩ = some (.slice (some ⟨blk I, 0, none⟩) (m + 1) (m + 1)) := hTx.1.cell (i := I) (by omega)
      have c2 : wr.cell? ⟨blk I, J, none⟩ = some (.int .i64 ((px a b I J : Nat) : Int)) := World.rowIs.cell (hTx.2 I hI) (i := J) (by omega)
      have c3 : wr.cell? ⟨blk I, j, none⟩ = some (.int .i64 ((px a b I j : Nat) : Int)) := World.rowIs.cell (hTx.2 I hI) (i := j) (by omega)
      have HV : Hid (vB a b (i + 1) j = decide (px a b I J = px a b I j)) := by
        show _ = _
        rw [hIi, hJj]
        rfl
      have HX0 : Hid (a[i]? = some a[i]) := List.getElem?_eq_getElem hlt1
      have HY0 : Hid (b[j]? = some b[j]) := List.getElem?_eq_getElem hlt2
      have HAx := Lib.hid (HAl.out i j _ _ HX0.out HY0.out)
      have HII := Lib.hid hIi
      have HJJ := Lib.hid hJj
      generalize px a b I J = X1 at *
      generalize px a b I j = X2 at *
      generalize blk I = G at *
      clear hTx hIi hJj h0 HF0
      by_cases hx : X1 = X2
      · subst hx
        have hv : vB a b (i + 1) j = true := by rw [HV.out]; exact decide_eq_true rfl
        have R := Lib.hid (fun q => ry_stay (wr := wr.drewN q) HII.out HJJ.out hv hI hJ hMl HWy.out hO (below_drewN hB q))
        clear HWy hO hB hv HV HAx HX0 HY0
        go_wp2_with fail
        go_quiet (fail)
        have R' := Lib.hid (R.out nq)
        clear R c1 c2 c3
        generalize wr.drewN nq = wy at *
        go_wp2_with fail
        go_roundw
        case rel => first | exact R'.out | ((repeat apply Exists.intro); exact ⟨R'.out, rfl⟩)
        case measure => first | omega | (simp [RowKit.intOf] <;> omega)
      · have hv : Hid (vB a b (i + 1) j = false) := by show _ = _; rw [HV.out]; exact decide_eq_false hx
        have hne : ((X1 : Int) == (X2 : Int)) = false := by simp; omega
        obtain ⟨ga, oa, rfl, ca⟩ := (h11.below hB).int hlt1
        obtain ⟨gb, ob, rfl, cb⟩ := (h21.below hB).int hlt2
        clear HX0 HY0 HV
        generalize a[i] = x0 at *
        generalize b[j] = y0 at *
        go_wp2_with fail
        go_quiet (fail)
        have hO1 : (wr.drewN nq).ownsRow w1.heap.size 29 2 u6 l.length (pv l) := hO
        have hB1 := below_drewN hB nq
        have hs1 : w1.heap.size ≤ (wr.drewN nq).heap.size := hsz
        have ca1 : (wr.drewN nq).cell? ⟨ga, oa + i, none⟩ = some (.int .i64 x0) := ca
        have cb1 : (wr.drewN nq).cell? ⟨gb, ob + j, none⟩ = some (.int .i64 y0) := cb
        clear hO hB hsz ca cb c1 c2 c3
        generalize wr.drewN nq = wy at *
        by_cases hxy : x0 = y0
        · subst hxy
          have hal : Hid (alikeAt a b i j = true) := by show _ = _; rw [HAx.out]; simp
          clear HAx
          go_wp2_with fail
          go_quiet (fail)
          have hO2 : (wy.drewN nq).ownsRow w1.heap.size 29 2 u6 l.length (pv l) := hO1
          have hB2 := below_drewN hB1 nq
          have hs2 : w1.heap.size ≤ (wy.drewN nq).heap.size := hs1
          clear hO1 hB1 hs1 ca1 cb1
          generalize wy.drewN nq = wz at *
          go_wp2_with (at_builtin; refine wpList_append_own _ rfl (.tmp 61) (.tmp 65) 22 rfl w1.heap.size 29 i0 (.agg #[.int .i64 0, .int .i64 0]) 2 16 Try.underlying22 hi0 hz0 hz1 hz2 rfl (by decide) _ _ _ rfl (hO2.alloc _) ⟨wz.heap.size, 0, none⟩ 1 1 [_, _] rfl rfl (pair_new _ _ _ _) (one_pair _ _) (by unfold maxLen; omega) (by omega) (by simp; omega) ?_)
          intro v' w' r1 r2 _
          have R := Lib.hid (ry_pair HII.out HJJ.out hv.out hal.out hI hJ hMl HWy.out r1 ((hB2.alloc hs2 _).grown r2 (by simp; omega) (fun x hx => (hO2.lt x hx).1)))
          clear r1 r2 hO2 hB2 HWy hal hv
          go_wp2_with fail
          go_roundw
          case rel => first | exact R.out | ((repeat apply Exists.intro); exact ⟨R.out, rfl⟩)
          case measure => first | omega | (simp [RowKit.intOf] <;> omega)
        · have hal : Hid (alikeAt a b i j = false) := by show _ = _; rw [HAx.out]; simpa using hxy
          have R := Lib.hid (fun q => ry_up (wr := wy.drewN q) HII.out HJJ.out hv.out hal.out hI hJ hMl HWy.out hO1 (below_drewN hB1 q))
          clear HAx hO1 hB1 HWy hal hv
          go_wp2_with fail
          go_quiet (fail)
          have R' := Lib.hid (R.out nq)
          clear R ca1 cb1
          generalize wy.drewN nq = wz at *
          go_wp2_with fail
          go_roundw
          case rel => first | exact R'.out | ((repeat apply Exists.intro); exact ⟨R'.out, rfl⟩)
          case measure => first | omega | (simp [RowKit.intOf] <;> omega)

end Go.Proofs.Ytncbhnmhaoblaaa
