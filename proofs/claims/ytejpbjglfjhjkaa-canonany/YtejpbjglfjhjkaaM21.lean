/-
  Words and contracts that the proof leans on.
-/
import Derived.Test.YtejpbjglfjhjkaaM20
import Derived.BigQuiet
import Derived.Deep.RegionWith
import Derived.Deep.DeepCutAuto
namespace Go.Proofs.Ytejpbjglfjhjkaa
open Go.RowKit

/-- The head of a round: both lists begin with f, which is done. -/
def ExRel (w0 w : World) (v0 : Value) (P p q : Nat) (a b : List Int) (L : List Pr) (v va vb : Value) (wr : World) : Prop :=
  ∃ (k n m c d : Nat) (f a' b' : List Int) (A B : Option Addr), Hid (a = f ++ a' ∧ b = f ++ b' ∧ f.length = k ∧ a'.length = n ∧ b'.length = m) ∧ va = .slice A n c ∧ vb = .slice B m d ∧ n ≤ c ∧ m ≤ d ∧ Row w0 A (iv a') ∧ Row w0 B (iv b') ∧ Own w0.heap.size v0 (L ++ sh p q (diag k)) w v wr ∧ v.ownBlock ≠ some P ∧ BxP wr P ((p : Int) + (k : Int), (q : Int) + (k : Int))
theorem diag_snoc (k : Nat) : diag (k + 1) = diag k ++ [((k : Int), (k : Int))] := by
  unfold diag
  rw [List.range_succ, List.map_append]
  rfl
theorem ext_more (p q k : Nat) (L : List Pr) : L ++ sh p q (diag (k + 1)) = (L ++ sh p q (diag k)) ++ [((p : Int) + (k : Int), (q : Int) + (k : Int))] := by
  rw [diag_snoc, sh_append, List.append_assoc]
  congr 3
  simp only [sh, List.map_cons, List.map_nil, List.cons.injEq, Prod.mk.injEq, and_true]
  omega
theorem ext_end (p q : Nat) (L : List Pr) (f a b : List Int) : L ++ sh p q (lst (f ++ a) (f ++ b)) = (L ++ sh p q (diag f.length)) ++ sh (p + f.length) (q + f.length) (lst a b) := by
  rw [lst_front, sh_append, sh_sh, List.append_assoc]

set_option maxRecDepth 100000 in
set_option maxHeartbeats 3200000 in
theorem extend_any : ∀ (N : Nat) (A B : Option Addr) (n m c d p q : Nat) (a b : List Int) (L : List Pr) (v0 : Value) (w0 w : World), a.length = n → b.length = m → n ≤ N → L.length + n ≤ 1048576 → p + n ≤ 1048576 → q + m ≤ 1048576 → n ≤ c → m ≤ d → Row w0 A (iv a) → Row w0 B (iv b) → Below w0.heap.size w0 w → w.ownsRow w0.heap.size 28 2 v0 L.length (pv L) →
    Calls Try.prog 32 #[v0, .slice A n c, .slice B m d, .agg #[.int .i64 (p : Int), .int .i64 (q : Int)]] w (Ext w0.heap.size v0 (L ++ sh p q (lst a b)) w) := by
  intro N
  induction N using Nat.strongRecOn with
  | ind N ih =>
  intro A B n m c d p q a b L v0 w0 w hn hm hN hLn hpn hqm hc hd h1 h2 h0 hown
  have IH := Lib.hid ih
  clear ih
  obtain ⟨i0, hi, hz0, hz1, hz2⟩ := info_parts Try.infoPair
  have hw0 := h0.size
  have HS : Hid (ExRel w0 w v0 w.heap.size p q a b L v0 (.slice A n c) (.slice B m d) (w.alloc (.cells #[.int .i64 (p : Int), .int .i64 (q : Int)] 28))) := by
    refine ⟨0, n, m, c, d, [], a, b, A, B, ⟨rfl, rfl, rfl, hn, hm⟩, rfl, rfl, hc, hd, h1, h2, ?_, fun e => ?_, ?_⟩
    · have : L ++ sh p q (diag 0) = L := by simp [diag, sh]
      rw [this]
      exact (Own.refl hown).alloc _
    · have := (hown.lt _ e).2
      omega
    · have := bxP_new w (p : Int) (q : Int)
      simpa using this
  have HOwn := Lib.hid hown
  have HB0 := Lib.hid h0
  clear h1 h2 hc hd
  have HN := Lib.hid hn
  have HM := Lib.hid hm
  clear hn hm hown h0
  go_enter Try.func32, Try.ntmps32
  go_wp2_with fail
  go_loopw [0, 1, 2] (fun v va vb wr => ExRel w0 w v0 w.heap.size p q a b L v va vb wr) (fun _ va _ _ => lenV va)
  case atStart => exact HS.out
  case round =>
    clear HS
    obtain ⟨k, n', m', c', d', f, a', b', A', B', HX, rfl, rfl, hc, hd, r1, r2, hO, hne, hBx⟩ := hrel
    obtain ⟨e1, e2, e3, e4, e5⟩ := HX.out
    have hnk : n = k + n' := by rw [← HN.out, e1, List.length_append]; omega
    have hmk : m = k + m' := by rw [← HM.out, e2, List.length_append]; omega
    have HEnd : Hid (L ++ sh p q (lst a b) = (L ++ sh p q (diag k)) ++ sh (p + k) (q + k) (lst a' b')) := by show _ = _; rw [e1, e2, ext_end, e3]
    have E4 := Lib.hid e4
    have E5 := Lib.hid e5
    have E12 := Lib.hid (And.intro e1 (And.intro e2 e3))
    clear e1 e2 e3 e4 e5 HX
    have hBr : Below w0.heap.size w0 wr := hO.below HB0.out HOwn.out
    by_cases ha0 : n' = 0
    · subst ha0
      have HR : Hid (Ext w0.heap.size v0 (L ++ sh p q (lst a b)) w (.returned u0) wr) := by
        refine ⟨_, rfl, ?_⟩
        rw [HEnd.out, List.eq_nil_of_length_eq_zero E4.out]
        show Own w0.heap.size v0 ((L ++ sh p q (diag k)) ++ sh (p + k) (q + k) []) w u0 wr
        rw [sh_nil, List.append_nil]
        exact hO
      clear hO
      go_wp2_with fail
      go_quiet (fail)
      go_wp2_with fail
      go_ret
      obtain ⟨v, e, hv⟩ := HR.out
      exact ⟨v, e, hv.drewN _⟩
    by_cases hb0 : m' = 0
    · subst hb0
      have HR : Hid (Own w0.heap.size v0 (L ++ sh p q (lst a b)) w u0 wr) := by
        show Own _ _ _ _ _ _
        rw [HEnd.out, List.eq_nil_of_length_eq_zero E5.out, lst_nil_right, sh_nil, List.append_nil]
        exact hO
      have t1 : decide (0 < (n' : Int)) = true := by simp; omega
      have t2 : decide (0 < n') = true := by simp; omega
      have t3 : ((n' : Int) == 0) = false := by simp; omega
      clear hO
      go_wp2_with fail
      go_quiet (fail)
      go_wp2_with fail
      go_ret
      exact ⟨_, rfl, HR.out.drewN _⟩
    obtain ⟨ga, oa, rfl, ca⟩ := (r1.below hBr).int (k := 0) (by rw [E4.out]; omega)
    obtain ⟨gb, ob, rfl, cb⟩ := (r2.below hBr).int (k := 0) (by rw [E5.out]; omega)
    have HX : Hid (a' = a'[0]'(by rw [E4.out]; omega) :: a'.tail) := by
      show _ = _
      cases a' with
      | nil => have := E4.out; simp at this; omega
      | cons x t => rfl
    have HY : Hid (b' = b'[0]'(by rw [E5.out]; omega) :: b'.tail) := by
      show _ = _
      cases b' with
      | nil => have := E5.out; simp at this; omega
      | cons x t => rfl
    generalize a'[0]'(by rw [E4.out]; omega) = x at *
    generalize b'[0]'(by rw [E5.out]; omega) = y at *
    simp only [Nat.add_zero] at ca cb
    have t1 : decide (0 < (n' : Int)) = true := by simp; omega
    have t2 : decide (0 < n') = true := by simp; omega
    have t1' : decide (0 < (m' : Int)) = true := by simp; omega
    have t2' : decide (0 < m') = true := by simp; omega
    have hPr : w.heap.size < wr.heap.size := World.rowIs.lt hBx
    by_cases heq : x = y
    · subst heq
      go_wp2_with fail
      go_quiet (fail)
      have hO1 := hO.drewN nq
      have hBx1 : BxP (wr.drewN nq) w.heap.size ((p : Int) + (k : Int), (q : Int) + (k : Int)) := hBx
      have hPr1 : w.heap.size < (wr.drewN nq).heap.size := hPr
      have hBr1 : Below w0.heap.size w0 (wr.drewN nq) := below_drewN hBr nq
      clear hO hBx hPr hBr ca cb t1 t2 t1' t2'
      generalize wr.drewN nq = wy at *
      obtain ⟨M, hM⟩ : ∃ M, L ++ sh p q (diag k) = M := ⟨_, rfl⟩
      have hMl : M.length ≤ L.length + k := by rw [← hM, List.length_append, sh_length]; simp [diag]
      rw [hM] at hO1
      have HMM := Lib.hid hM
      obtain ⟨p1, p2, p3, p4⟩ := hBx1.cells
      simp only at p1 p2
      clear hM
      go_wp2_with (at_builtin; refine wpList_append_own_at _ rfl (.tmp 29) (.tmp 31) 22 rfl w0.heap.size 28 i0 (.agg #[.int .i64 0, .int .i64 0]) 2 16 Try.underlying22 hi hz0 hz1 hz2 rfl (by decide) _ _ _ rfl (hO1.1.alloc _) ⟨wy.heap.size, 0, none⟩ 1 1 [_, _] rfl rfl (pair_new _ _ _ _) (one_pair _ _) (by unfold maxLen; omega) (by omega) (by simp; omega) ?_)
      intro v' w' q1 q2 _ q3
      have hO2 : Own w0.heap.size v0 (M ++ [((p : Int) + (k : Int), (q : Int) + (k : Int))]) w v' w' := (hO1.alloc _).step (own_app q1 q2 (by simpa using q3))
      have hne2 : v'.ownBlock ≠ some w.heap.size := by
        rcases q3 with e | e
        · rw [e]; exact hne
        · rw [e]; intro e'; injection e' with e'; omega
      have hBx2 : BxP w' w.heap.size ((p : Int) + (k : Int), (q : Int) + (k : Int)) := BxP.grown (World.rowIs.alloc hBx1 _) q2 (fun e => hne e.symm)
      obtain ⟨A1, c1, s1, s2, s3⟩ := slice_from (some ⟨ga, oa, none⟩) n' c' 1 a' w0 r1 E4.out hc (by omega)
      obtain ⟨B1, d1, s4, s5, s6⟩ := slice_from (some ⟨gb, ob, none⟩) m' d' 1 b' w0 r2 E5.out hd (by omega)
      simp only [Int.natCast_one] at s1 s4
      have R : Hid (∀ wr', Own w0.heap.size v0 (M ++ [((p : Int) + (k : Int), (q : Int) + (k : Int))]) w v' wr' → BxP wr' w.heap.size ((p : Int) + (k : Int) + 1, (q : Int) + (k : Int) + 1) → ExRel w0 w v0 w.heap.size p q a b L v' (.slice A1 (n' - 1) c1) (.slice B1 (m' - 1) d1) wr') := fun wr' g1 g2 => by
        obtain ⟨e1, e2, e3⟩ := E12.out
        refine ⟨k + 1, n' - 1, m' - 1, c1, d1, f ++ [x], a'.tail, b'.tail, A1, B1, ⟨?_, ?_, ?_, ?_, ?_⟩, rfl, rfl, s2, s5, ?_, ?_, ?_, hne2, ?_⟩
        · rw [e1, List.append_assoc, HX.out]; rfl
        · rw [e2, List.append_assoc, HY.out]; rfl
        · rw [List.length_append, e3]; rfl
        · rw [List.length_tail, E4.out]
        · rw [List.length_tail, E5.out]
        · rw [← List.drop_one]; exact s3
        · rw [← List.drop_one]; exact s6
        · rw [ext_more, HMM.out]; exact g1
        · have e : ((p : Int) + (k : Int) + 1, (q : Int) + (k : Int) + 1) = ((p : Int) + ((k + 1 : Nat) : Int), (q : Int) + ((k + 1 : Nat) : Int)) := by simp only [Prod.mk.injEq]; omega
          rw [← e]; exact g2
      have hPw : w.heap.size < w'.heap.size := World.rowIs.lt hBx2
      obtain ⟨p5, p6, p7, p8⟩ := hBx2.cells
      simp only at p5 p6
      have HO2 := Lib.hid hO2
      have HBx2 := Lib.hid hBx2
      clear hO2 hBx2 q1 q2 q3 hO1 hBx1 p1 p2 p3 p4 s2 s3 s5 s6 r1 r2 hBr1 hPr1 hMl HMM
      go_wp2_with fail
      go_region_with (go_at_call 34; refine (moved_any ((p : Int) + (k : Int)) ((q : Int) + (k : Int)) 1 1 w'.drew (by unfold I64; omega) (by unfold I64; omega)).mono ?_; rintro e w3 ⟨rfl, hb3⟩; have x3 : BxP w3 w.heap.size ((p : Int) + (k : Int), (q : Int) + (k : Int)) := BxP.grown (w := w'.drew) HBx2.out (below_grown hb3 none) (by simp); have y3 : Own w0.heap.size v0 (M ++ [((p : Int) + (k : Int), (q : Int) + (k : Int))]) w v' w3 := HO2.out.drew.call hb3; obtain ⟨z1, z2, z3, z4⟩ := x3.cells; simp only at z1 z2)
      have HR := Lib.hid (R.out _ ((y3.set (i := 0) (Nat.le_refl _) hne2 (.int .i64 ((p : Int) + (k : Int) + 1))).set (i := 1) (Nat.le_refl _) hne2 (.int .i64 ((q : Int) + (k : Int) + 1))) (x3.set ((p : Int) + (k : Int) + 1) ((q : Int) + (k : Int) + 1)))
      clear R x3 y3 z1 z2 z3 z4 s1 s4
      go_wp2_with fail
      go_roundw
      case rel => exact HR.out
      case measure => simp [lenV]; omega
    · have hxy : (x == y) = false := by simpa using heq
      have t3 : ((n' : Int) == 0) = false := by simp; omega
      have t4 : ((m' : Int) == 0) = false := by simp; omega
      have t3' : (n' == 0) = false := by simp; omega
      have t4' : (m' == 0) = false := by simp; omega
      clear heq
      go_wp2_with fail
      go_quiet (fail)
      have hO1 := hO.drewN nq
      have hBx1 : BxP (wr.drewN nq) w.heap.size ((p : Int) + (k : Int), (q : Int) + (k : Int)) := hBx
      have hPr1 : w.heap.size < (wr.drewN nq).heap.size := hPr
      have hBr1 : Below w0.heap.size w0 (wr.drewN nq) := below_drewN hBr nq
      have ca1 : (wr.drewN nq).cell? ⟨ga, oa, none⟩ = some (.int .i64 x) := ca
      clear hO hBx hPr hBr ca cb t1 t2 t1' t2' hxy
      generalize wr.drewN nq = wy at *
      obtain ⟨M, hM⟩ : ∃ M, L ++ sh p q (diag k) = M := ⟨_, rfl⟩
      have hMl : M.length ≤ L.length + k := by rw [← hM, List.length_append, sh_length]; simp [diag]
      rw [hM] at hO1 HEnd
      clear hM
      obtain ⟨p1, p2, p3, p4⟩ := hBx1.cells
      simp only at p1 p2
      by_cases hn1 : n' = 1
      · subst hn1
        have HA : Hid (a' = [x]) := by
          show _ = _
          have h := HX.out
          have hl := E4.out
          rw [h] at hl ⊢
          simp only [List.length_cons, Nat.add_eq_right] at hl
          rw [List.eq_nil_of_length_eq_zero hl]
        have IX := Lib.hid (index_any (some ⟨gb, ob, none⟩) m' d' b' x wy E5.out (by omega) (r2.below hBr1))
        clear t3 t4' t3'
        cases hat : at1 x b' with
        | none =>
          have ei : idxI x b' = -1 := by unfold idxI; rw [hat]
          rw [ei] at IX
          have HR : Hid (Own w0.heap.size v0 (L ++ sh p q (lst a b)) w u0 wy) := by
            show Own _ _ _ _ _ _
            rw [HEnd.out, HA.out, lst_one_no hat, sh_nil, List.append_nil]
            exact hO1
          clear hO1 ei hat HEnd
          go_wp2_with fail
          refine IX.out.mono ?_
          rintro e w1 ⟨rfl, rfl⟩
          go_wp2_with fail
          go_ret
          exact ⟨_, rfl, HR.out⟩
        | some j =>
          have ei : idxI x b' = (j : Int) := by unfold idxI; rw [hat]
          have hj : j < m' := by have := (List.getElem?_eq_some_iff.1 (at1_some hat).1).1; rw [E5.out] at this; exact this
          rw [ei] at IX
          have HE2 : Hid (L ++ sh p q (lst a b) = M ++ [((p : Int) + (k : Int), (q : Int) + (k : Int) + (j : Int))]) := by
            show _ = _
            rw [HEnd.out, HA.out, lst_one hat]
            congr 1
            simp only [sh, List.map_cons, List.map_nil, List.cons.injEq, Prod.mk.injEq, and_true]
            omega
          clear ei hat HEnd
          go_wp2_with fail
          refine IX.out.mono ?_
          rintro e w1 ⟨rfl, rfl⟩
          have MV := Lib.hid (moved_any ((p : Int) + (k : Int)) ((q : Int) + (k : Int)) 0 (j : Int) w1 (by unfold I64; omega) (by unfold I64; omega))
          clear IX
          go_wp2_with fail
          refine MV.out.mono ?_
          rintro e w2 ⟨rfl, hb2⟩
          have hO2 := hO1.call hb2
          have hs2 := hb2.size
          clear MV hO1 hBx1 p1 p2 p3 p4 ca1 hb2 hPr1 
          have hw2 : w0.heap.size ≤ w2.heap.size := by have := hBr1.size; omega
          clear hBr1
          go_wp2_with (at_builtin; refine wpList_append_own_at _ rfl (.tmp 58) (.tmp 62) 22 rfl w0.heap.size 28 i0 (.agg #[.int .i64 0, .int .i64 0]) 2 16 Try.underlying22 hi hz0 hz1 hz2 rfl (by decide) _ _ _ rfl (hO2.1.alloc _) ⟨w2.heap.size, 0, none⟩ 1 1 [_, _] rfl rfl (pair_new _ _ _ _) (one_pair _ _) (by unfold maxLen; omega) (by omega) (by simp; omega) ?_)
          intro v' w' q1 q2 _ q3
          have HR : Hid (Own w0.heap.size v0 (L ++ sh p q (lst a b)) w v' w') := by
            show Own _ _ _ _ _ _
            rw [HE2.out]
            exact (hO2.alloc _).step (own_app q1 q2 (by simpa using q3))
          clear q1 q2 q3 hO2 HE2
          go_wp2_with fail
          go_ret
          exact ⟨_, rfl, HR.out⟩
      · have t5 : ((n' : Int) == 1) = false := by simp; omega
        have t5' : (n' == 1) = false := by simp; omega
        obtain ⟨h, hh⟩ : ∃ h, n' / 2 = h := ⟨_, rfl⟩
        have hq1 : (n' : Int) / 2 = (h : Int) := by omega
        have hq2 : (n' : Int).tdiv 2 = (h : Int) := by rw [Int.tdiv_eq_ediv_of_nonneg (by omega)]; exact hq1
        have bh : 0 < h ∧ h < n' := by omega
        clear hh
        have SP := Lib.hid (split_any (some ⟨ga, oa, none⟩) (some ⟨gb, ob, none⟩) n' m' c' d' h a' b' wy E4.out E5.out (by omega) (by omega) (by omega) (by omega) (r1.below hBr1) (r2.below hBr1))
        have hjm : spl a' b' h ≤ m' := by have := spl_le a' b' h; rw [E5.out] at this; exact this
        have HC := Lib.hid (lst_cut a' b' h)
        generalize spl a' b' h = j at *
        go_wp2_with fail
        refine SP.out.mono ?_
        rintro e w1 ⟨rfl, hb1⟩
        have hO2 := hO1.call hb1
        have hBx2 : BxP w1 w.heap.size ((p : Int) + (k : Int), (q : Int) + (k : Int)) := hBx1.grown (below_grown hb1 none) (by simp)
        have hBr2 : Below w0.heap.size w0 w1 := hBr1.trans (hb1.mono hBr1.size)
        have hPr2 : w.heap.size < w1.heap.size := World.rowIs.lt hBx2
        obtain ⟨s1, s2⟩ := slice_to (some ⟨ga, oa, none⟩) n' c' h a' w0 r1 (by omega)
        obtain ⟨s3, s4⟩ := slice_to (some ⟨gb, ob, none⟩) m' d' j b' w0 r2 (by omega)
        have X1 := IH.out (n' - 1) (by omega) (some ⟨ga, oa, none⟩) (some ⟨gb, ob, none⟩) h j c' d' (p + k) (q + k) (a'.take h) (b'.take j) M u0 w0 w1.drew (by rw [List.length_take, E4.out]; omega) (by rw [List.length_take, E5.out]; omega) (by omega) (by omega) (by omega) (by omega) (by omega) (by omega) s2 s4 hBr2.drew hO2.drew.1
        simp only [Int.natCast_add] at X1
        have HX1 := Lib.hid X1
        obtain ⟨p5, p6, p7, p8⟩ := hBx2.cells
        simp only at p5 p6
        have HO2 := Lib.hid hO2
        clear X1 hO1 hO2 hBx1 hPr1 hBr1 ca1 SP hb1 p1 p2 p3 p4 t3 t3' t4 t4' t5 t5' hq1 hq2 hn1
        go_wp2_with fail
        go_region_with (go_at_call 32; refine HX1.out.mono ?_; rintro e w2 ⟨v1, rfl, hO3⟩)
        have hO4 : Own w0.heap.size v0 (M ++ sh (p + k) (q + k) (lst (a'.take h) (b'.take j))) w v1 w2 := HO2.out.drew.step hO3
        have hne4 : v1.ownBlock ≠ some w.heap.size := by
          rcases hO3.2.2 with e | ⟨z, e, hz⟩
          · rw [e]; exact hne
          · rw [e]; intro e'; injection e' with e'; have : w1.heap.size ≤ z := hz; omega
        have hBx4 : BxP w2 w.heap.size ((p : Int) + (k : Int), (q : Int) + (k : Int)) := BxP.grown (w := w1.drew) hBx2 hO3.2.1 (fun e => hne e.symm)
        have hBr4 : Below w0.heap.size w0 w2 := hO4.below HB0.out HOwn.out
        clear HX1 hO3 HO2 hBx2 hBr2 hPr2 p5 p6 p7 p8 s1 s2 s3 s4
        obtain ⟨M2, hM2⟩ : ∃ M2, M ++ sh (p + k) (q + k) (lst (a'.take h) (b'.take j)) = M2 := ⟨_, rfl⟩
        have hM2l : M2.length ≤ M.length + h := by
          rw [← hM2, List.length_append, sh_length, lst_length]
          have := lcs_le_left (a'.take h) (b'.take j)
          rw [List.length_take] at this
          omega
        rw [hM2] at hO4
        have HE3 : Hid (L ++ sh p q (lst a b) = M2 ++ sh (p + k + h) (q + k + j) (lst (a'.drop h) (b'.drop j))) := by
          show _ = _
          rw [HEnd.out, HC.out, sh_append, sh_sh, ← List.append_assoc, hM2]
        clear hM2 HEnd HC
        obtain ⟨A1, c1, s1, s2, s3⟩ := slice_from (some ⟨ga, oa, none⟩) n' c' h a' w0 r1 E4.out hc (by omega)
        obtain ⟨B1, d1, s4, s5, s6⟩ := slice_from (some ⟨gb, ob, none⟩) m' d' j b' w0 r2 E5.out hd (by omega)
        have MV := Lib.hid (moved_any ((p : Int) + (k : Int)) ((q : Int) + (k : Int)) (h : Int) (j : Int) w2.drew (by unfold I64; omega) (by unfold I64; omega))
        obtain ⟨p5, p6, p7, p8⟩ := hBx4.cells
        simp only at p5 p6
        have X2 : Hid (∀ w3, Below w2.heap.size w2.drew w3 → Calls Try.prog 32 #[v1, .slice A1 (n' - h) c1, .slice B1 (m' - j) d1, .agg #[.int .i64 ((p : Int) + (k : Int) + (h : Int)), .int .i64 ((q : Int) + (k : Int) + (j : Int))]] w3 fun e w4 => ∃ v, e = .returned v ∧ Own w0.heap.size v0 (L ++ sh p q (lst a b)) w v w4) := fun w3 hb3 => by
          have hO5 := hO4.drew.call hb3
          have X := IH.out (n' - 1) (by omega) A1 B1 (n' - h) (m' - j) c1 d1 (p + k + h) (q + k + j) (a'.drop h) (b'.drop j) M2 v1 w0 w3 (by rw [List.length_drop, E4.out]) (by rw [List.length_drop, E5.out]) (by omega) (by omega) (by omega) (by omega) s2 s5 s3 s6 (hBr4.drew.trans (hb3.mono hBr4.size)) hO5.1
          simp only [Int.natCast_add] at X
          refine X.mono ?_
          rintro e w4 ⟨v, rfl, hv⟩
          refine ⟨v, rfl, ?_⟩
          rw [HE3.out]
          exact hO5.step hv
        clear hO4 hBx4 hBr4 s2 s3 s5 s6 hne4 HE3 hM2l hMl IH
        go_wp2_with fail
        go_region_with (first | (go_at_call 34; refine MV.out.mono ?_; rintro e w3 ⟨rfl, hb3⟩) | (go_at_call 32; refine (X2.out w3 hb3).mono ?_; rintro e w4 ⟨v, rfl, hv⟩))
        all_goals (go_wp2_with fail; go_ret; exact ⟨_, rfl, hv⟩)

end Go.Proofs.Ytejpbjglfjhjkaa
