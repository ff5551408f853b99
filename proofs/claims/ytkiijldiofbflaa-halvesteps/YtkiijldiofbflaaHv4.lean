/-
  Contract of package halve's Run.
-/
import Derived.Test.YtkiijldiofbflaaHvQ
import Derived.Test.YtkiijldiofbflaaHvS
namespace Go.Proofs.Ytkiijldiofbflaa
open Go.RowKit

/-- The head of a round. -/
def RunRel (w : World) (T : List Pr) (N : Nat) (vl vs vp : Value) (wr : World) : Prop :=
  ∃ (k g c s : Nat) (ps : List Pt) (L : List Pr), vs = .int .i64 (s : Int) ∧ vp = .slice (some ⟨g, 0, none⟩) k c ∧ Hid (ps.length = k) ∧ wr.ownsRow w.heap.size 28 2 vl L.length (pv L) ∧ wr.ownsRow w.heap.size 38 4 vp k (ptv ps) ∧ vl.ownBlock ≠ some g ∧ Hid (∀ p ∈ ps, p.ok w) ∧ Hid (L ++ todo ps = T ∧ s + cost ps = N) ∧ 2 * k ≤ 2 + s ∧ Below w.heap.size w wr

theorem cells_new (w : World) (cs : List Value) (t : TypeId) {b : Nat} (hb : w.heap.size = b) : ∀ j u, cs[j]? = some u → (w.alloc (.cells cs.toArray t)).cell? ((⟨b, 0, none⟩ : Addr).add j) = some u := by
  subst hb
  intro j u hu
  obtain ⟨g, o, e, hc⟩ := Row.new w cs t (0, 0) (by intro e; rw [e] at hu; simp at hu)
  cases e
  rw [Addr.add_lit]
  exact hc j u hu

set_option maxRecDepth 100000 in
set_option maxHeartbeats 3200000 in
theorem run_any (A B : Option Addr) (n m c d : Nat) (a b : List Int) (w : World) (hn : a.length = n) (hm : b.length = m) (hn' : n ≤ 1048576) (hm' : m ≤ 1048576) (hc : n ≤ c) (hd : m ≤ d) (h1 : Row w A (iv a)) (h2 : Row w B (iv b)) :
    Calls Try.prog 8 #[.slice A n c, .slice B m d] w (MadeS (hv a b 0 0).1 (hv a b 0 0).2 w) := by
  obtain ⟨i0, hi0, hz0, hz1, hz2⟩ := info_parts Try.infoPart
  have HTl : Hid ((hv a b 0 0).1.length ≤ 1048576) := by
    have := (hv_is (a := a) (b := b) (by rw [hn]; exact hn')).2
    have h' := lcs_le_left a b
    show _ ≤ _
    omega
  have HNl : Hid ((hv a b 0 0).2 ≤ 1048576 * 2097173) := Nat.le_trans (hv_steps 0 0 (by rw [hn]; exact hn')) (by rw [hn, hm]; exact mst_le hn' hm')
  have R0 : Hid (RunRel w (hv a b 0 0).1 (hv a b 0 0).2 (.slice none 0 0) (.int .i64 0) (.slice (some ⟨w.heap.size, 0, none⟩) 1 1) (w.alloc (.cells #[.slice A n c, .slice B m d, .int .i64 0, .int .i64 0] 38))) := by
    refine ⟨1, w.heap.size, 1, 0, [⟨A, B, n, m, c, d, a, b, 0, 0⟩], [], rfl, rfl, rfl, World.ownsRow_nil _ _ _ _, World.ownsRow_lit w _ 1 (Nat.le_refl _) (by unfold maxLen; omega) rfl, by simp [Value.ownBlock], ?_, ?_, by omega, below_al (Below.refl _ _) _⟩
    · intro p hp
      simp only [List.mem_cons, List.not_mem_nil, or_false] at hp
      subst hp
      exact ⟨hn, hm, hc, hd, by simpa using hn', by simpa using hm', h1, h2⟩
    · exact ⟨by simp [todo, Pt.hv], by simp [cost, Pt.hv]⟩
  clear hn hm h1 h2 hc hd
  generalize (hv a b 0 0).1 = T at *
  generalize (hv a b 0 0).2 = N at *
  have hNl := HNl.out
  go_enter Try.func8, Try.ntmps8
  go_wp2_with fail
  go_loopw [6, 7, 8] (fun vl vs vp wr => RunRel w T N vl vs vp wr) (fun _ vs vp _ => 2 * (N - (intOf vs).toNat) + lenV vp)
  case atStart => exact R0.out
  case round =>
    clear R0
    obtain ⟨k, g, cp, s, ps, L, rfl, rfl, HK, hL, hP, hne, HOK, HT, h2k, hB⟩ := hrel
    have hLl : L.length ≤ 1048576 := by
      have h := HTl.out
      rw [← HT.out.1, List.length_append] at h
      omega
    have hsN : s + cost ps = N := HT.out.2
    by_cases hk0 : k = 0
    · subst hk0
      have HF : Hid (MadeS T N w (.returned (.tuple #[u6, .int .i64 (s : Int)])) wr) := by
        have e : ps = [] := List.eq_nil_of_length_eq_zero HK.out
        have ht := HT.out
        rw [e] at ht
        simp only [todo, cost, List.reverse_nil, List.flatMap_nil, List.append_nil, List.map_nil, List.sum_nil, Nat.add_zero] at ht
        obtain ⟨rfl, rfl⟩ := ht
        exact ⟨_, rfl, hL, hB⟩
      clear hL hP hB hne
      go_wp2_with fail
      go_ret2
      exact HF.out
    obtain ⟨k, rfl⟩ : ∃ k', k = k' + 1 := ⟨k - 1, by omega⟩
    obtain ⟨qs, p, rfl⟩ : ∃ qs p, ps = qs ++ [p] := ⟨ps.dropLast, ps.getLast (by intro e; have := HK.out; simp [e] at this), (List.dropLast_concat_getLast _).symm⟩
    have HQ : Hid (qs.length = k) := by have := HK.out; rw [List.length_append, List.length_singleton] at this; show _ = _; omega
    obtain ⟨x0, x1, x2, x3⟩ := ptv_last qs p
    rw [HQ.out] at x0 x1 x2 x3
    rw [← hP.cellAt _ (by omega)] at x0 x1 x2 x3
    have hP' : wr.ownsRow w.heap.size 38 4 (.slice (some ⟨g, 0, none⟩) k cp) k (ptv qs) := ownsRow_pop (by rw [ptv_length, HQ.out]) (by rw [← ptv_append]; exact hP)
    have sl := slice_less (some ⟨g, 0, none⟩) (k + 1) cp k (by obtain ⟨_, _, e, h, _⟩ := own_sliceS hP; injection e; omega)
    have HPo : Hid (p.ok w) := HOK.out p (by simp)
    have HQo : Hid (∀ q ∈ qs, q.ok w) := fun q hq => HOK.out q (by simp [hq])
    have HT1 : Hid (L ++ (p.hv.1 ++ todo qs) = T) := by have := HT.out.1; rw [todo_snoc] at this; exact this
    have HN1 : s + (cost qs + p.hv.2) = N := by rw [← cost_snoc]; exact hsN
    clear hP hsN HT HOK HK
    obtain ⟨pA, pB, pn, pm, pc, pd, pa, pb, pi, pj⟩ := p
    simp only at x0 x1 x2 x3
    have HH : Hid (Pt.hv ⟨pA, pB, pn, pm, pc, pd, pa, pb, pi, pj⟩ = hv pa pb (pi : Int) (pj : Int)) := rfl
    rw [HH.out] at HT1 HN1
    clear HH
    obtain ⟨o1, o2, o3, o4, o5, o6, o7, o8⟩ := HPo.out
    simp only at o1 o2 o3 o4 o5 o6 o7 o8
    have HO1 := Lib.hid o1
    have HO2 := Lib.hid o2
    clear o1 o2 HPo
    obtain ⟨z, hz⟩ : ∃ z, pn * pm = z := ⟨_, rfl⟩
    have hzl : z ≤ (hv pa pb (pi : Int) (pj : Int)).2 := by rw [← hz, ← HO1.out, ← HO2.out]; exact hv_least pa pb _ _
    have C1 : Hid (∀ w', Calls Try.prog 17 #[.agg #[.slice pA pn pc, .slice pB pm pd, .int .i64 (pi : Int), .int .i64 (pj : Int)]] w' fun e w'' => e = .returned (.int .i64 (z : Int)) ∧ Below w'.heap.size w' w'') := fun w' => by
      have h := own_any pA pB pn pm pc pd (pi : Int) (pj : Int) w' (by omega) (by omega)
      rw [hz] at h
      exact h
    have HZ := Lib.hid hz
    clear hz
    have BX := bx4_new wr (.slice pA pn pc) (.slice pB pm pd) (.int .i64 (pi : Int)) (.int .i64 (pj : Int))
    have hwr := hB.size
    have hgl := (hP'.lt g rfl).2
    have hul : ∀ x, u6.ownBlock = some x → x < wr.heap.size := fun x e => (hL.lt x e).2
    replace hB := below_al hB (.cells #[.slice pA pn pc, .slice pB pm pd, .int .i64 (pi : Int), .int .i64 (pj : Int)] 38)
    replace hL := hL.alloc (.cells #[.slice pA pn pc, .slice pB pm pd, .int .i64 (pi : Int), .int .i64 (pj : Int)] 38)
    replace hP' := hP'.alloc (.cells #[.slice pA pn pc, .slice pB pm pd, .int .i64 (pi : Int), .int .i64 (pj : Int)] 38)
    go_wp2_with fail
    refine (C1.out _).mono ?_
    rintro e w1 ⟨rfl, hb1⟩
    clear x0 x1 x2 x3 sl
    replace BX := BX.below hb1
    replace hB := below_go hB hb1
    replace hL := own_belowS hL hb1 (Nat.le_refl _)
    replace hP' := own_belowS hP' hb1 (Nat.le_refl _)
    have hs1 : wr.heap.size < w1.heap.size := World.rowIs.lt BX
    clear hb1
    obtain ⟨Q, hQ⟩ : ∃ Q, wr.heap.size = Q := ⟨_, rfl⟩
    rw [hQ] at BX hwr hgl hul hs1
    rw [hQ]
    clear hQ
    obtain ⟨y0, y1, y2, y3⟩ := BX.cells
    go_wp2_with fail
    refine (C1.out _).mono ?_
    rintro e w2 ⟨rfl, hb2⟩
    clear y0 y1 y2 y3
    replace BX := BX.below hb2
    replace hB := below_go hB hb2
    replace hL := own_belowS hL hb2 (Nat.le_refl _)
    replace hP' := own_belowS hP' hb2 (Nat.le_refl _)
    have hs2 : Q < w2.heap.size := World.rowIs.lt BX
    clear hb2 C1 hs1
    by_cases hz0' : z = 0
    · subst hz0'
      have R : Hid (RunRel w T N u6 (.int .i64 (s : Int)) (.slice (some ⟨g, 0, none⟩) k cp) w2) := by
        have e : hv pa pb (pi : Int) (pj : Int) = ([], 0) := hv_none (by rw [HO1.out, HO2.out]; exact Nat.mul_eq_zero.1 HZ.out)
        have t1 := HT1.out
        rw [e] at t1 HN1
        exact ⟨k, g, cp, s, qs, L, rfl, rfl, HQ.out, hL, hP', hne, HQo.out, ⟨t1, by simpa using HN1⟩, by omega, hB⟩
      clear hL hP' hB BX HN1
      go_wp2_with fail
      go_roundw
      case rel => exact R.out
      case measure => simp [intOf, lenV]
    have t1 : ((z : Int) == 0) = false := by simp; omega
    have t1' : (z == 0) = false := by simp; omega
    obtain ⟨y0, y1, y2, y3⟩ := BX.cells
    by_cases hp1 : pn = 1
    · subst hp1
      obtain ⟨x, rfl⟩ := List.length_eq_one_iff.1 HO1.out
      have C2 := Lib.hid (single_any pA pB pm pc pd w.heap.size x pb pi pj L u6 w2 HO2.out (by omega) (by omega) hLl (o7.below hB) (o8.below hB) hB.size hL)
      have e : hv [x] pb (pi : Int) (pj : Int) = (one1 x pb (pi : Int) (pj : Int), pb.length) := hv_one (by rw [HO2.out]; have := HZ.out; omega)
      have t1 := HT1.out
      rw [e] at t1 HN1 hzl
      have HT2 : Hid ((L ++ one1 x pb (pi : Int) (pj : Int)) ++ todo qs = T) := by show _ = _; rw [List.append_assoc]; exact t1
      have hN2 : s + z + cost qs = N := by
        have h := HN1
        have h' := HZ.out
        simp only [HO2.out] at h
        omega
      clear e t1 HN1 HT1 hzl
      go_wp2_with fail
      refine C2.out.mono ?_
      rintro e w3 ⟨v, rfl, O1, O2, O3⟩
      have R : Hid (RunRel w T N v (.int .i64 ((s : Int) + (z : Int))) (.slice (some ⟨g, 0, none⟩) k cp) w3) := by
        refine ⟨k, g, cp, s + z, qs, L ++ one1 x pb (pi : Int) (pj : Int), by rw [Int.natCast_add], rfl, HQ.out, O1, hP'.kept O2 (.inr fun e => hne e.symm), fun e => ?_, HQo.out, ⟨HT2.out, hN2⟩, by omega, hB.grown O2 hB.size (fun x e => (hL.lt x e).1)⟩
        rcases O3 with O3 | ⟨y, O3, O4⟩
        · rw [O3] at e
          exact hne e
        · rw [O3] at e
          injection e with e
          omega
      clear hL hP' hB BX O1 O2 O3 C2
      go_wp2_with fail
      go_roundw
      case rel => exact R.out
      case measure => simp [intOf, lenV]; omega
    · have t2 : ((pn : Int) == 1) = false := by simp; omega
      have t2' : (pn == 1) = false := by simp; omega
      have hpn2 : 2 ≤ pn := by
        have := HZ.out
        rcases Nat.lt_or_ge pn 2 with h | h
        · have : pn = 0 := by omega
          subst this
          simp at *
          omega
        · exact h
      have hpm1 : pm ≠ 0 := fun e => by have := HZ.out; rw [e] at this; simp at this; omega
      have hz2' : 2 ≤ z := by rw [← HZ.out]; exact Nat.le_trans (by omega) (Nat.mul_le_mul hpn2 (show 1 ≤ pm by omega))
      have C0 := Lib.hid (divided_any pA pB pn pm pc pd pa pb pi pj w w2 HO1.out HO2.out hpn2 (by omega) (by omega) o3 o4 (by omega) (by omega) hB o7 o8)
      have e := hv_two (i := (pi : Int)) (j := (pj : Int)) (show 2 ≤ pa.length by rw [HO1.out]; exact hpn2) (show pb.length ≠ 0 by rw [HO2.out]; exact hpm1)
      have hJ : hjo pa pb ≤ pm := by rw [← HO2.out]; exact (hjo_meet (by rw [HO1.out]; omega)).1
      rw [HO1.out, HO2.out, HZ.out] at e
      obtain ⟨h, hh⟩ : ∃ h, pn / 2 = h := ⟨_, rfl⟩
      have hhn : h ≤ pn := by omega
      have t1 := HT1.out
      rw [e] at t1 HN1 hzl
      rw [hh] at C0 t1 HN1
      have HA1 : Hid ((pa.take h).length = h) := by show _ = _; rw [List.length_take, HO1.out]; omega
      have HA2 : Hid ((pa.drop h).length = pn - h) := by show _ = _; rw [List.length_drop, HO1.out]
      generalize hjo pa pb = J at *
      have HB1 : Hid ((pb.take J).length = J) := by show _ = _; rw [List.length_take, HO2.out]; omega
      have HB2 : Hid ((pb.drop J).length = pm - J) := by show _ = _; rw [List.length_drop, HO2.out]
      have HTT := Lib.hid t1
      have HNN := Lib.hid HN1
      have hsz : s + z ≤ N := by
        have h' := HN1
        simp only at h'
        omega
      obtain ⟨ih, hih⟩ : ∃ x, pi + h = x := ⟨_, rfl⟩
      obtain ⟨jJ, hjJ⟩ : ∃ x, pj + J = x := ⟨_, rfl⟩
      have HI := Lib.hid hih
      have HJ := Lib.hid hjJ
      have C2 : Hid (Calls Try.prog 19 #[.agg #[.slice pA pn pc, .slice pB pm pd, .int .i64 (pi : Int), .int .i64 (pj : Int)]] w2 fun e w' => ∃ (A1 B1 : Option Addr) (c1 d1 : Nat), e = .returned (.tuple #[.agg #[.slice pA h pc, .slice pB J pd, .int .i64 (pi : Int), .int .i64 (pj : Int)], .agg #[.slice A1 (pn - h) c1, .slice B1 (pm - J) d1, .int .i64 (ih : Int), .int .i64 (jJ : Int)]]) ∧ pn - h ≤ c1 ∧ pm - J ≤ d1 ∧ Row w A1 (iv (pa.drop h)) ∧ Row w B1 (iv (pb.drop J)) ∧ Below w2.heap.size w2 w') := by
        refine Calls.mono C0.out ?_
        rintro e w' ⟨A1, B1, c1, d1, he, r⟩
        rw [hih, hjJ] at he
        exact ⟨A1, B1, c1, d1, he, r⟩
      clear e t1 HT1 HN1 hh hzl C0 hih hjJ
      go_wp2_with fail
      refine C2.out.mono ?_
      rintro e w3 ⟨A1, B1, c1, d1, rfl, q1, q2, q3, q4, hb3⟩
      replace hL := own_belowS hL hb3 (Nat.le_refl _)
      replace hP' := own_belowS hP' hb3 (Nat.le_refl _)
      have hb0 := below_go hB hb3
      have hs3 := hb3.size
      clear C2 y0 y1 y2 y3 BX hb3
      go_wp2_with (at_builtin; refine wpList_append_own_at _ rfl (.tmp 39) (.tmp 42) 39 rfl w.heap.size 38 i0 (.agg #[.slice none 0 0, .slice none 0 0, .int .i64 0, .int .i64 0]) 4 64 Try.underlying39 hi0 hz0 hz1 hz2 rfl (by decide) _ _ _ rfl (((hP'.alloc _).alloc _).alloc _) ⟨w3.heap.size + 1 + 1, 0, none⟩ 2 2 (ptv [⟨A1, B1, pn - h, pm - J, c1, d1, pa.drop h, pb.drop J, ih, jJ⟩, ⟨pA, pB, h, J, pc, pd, pa.take h, pb.take J, pi, pj⟩]) rfl rfl (cells_new _ _ _ (by simp)) (ptv_cells _) (by unfold maxLen; omega) (by omega) (by simp; omega) ?_)
      intro v' w' q5 q6 _ q7
      obtain ⟨g', cp', rfl, _, _, _⟩ := own_posS q5 (by omega)
      have R : Hid (RunRel w T N u6 (.int .i64 ((s : Int) + (z : Int))) (.slice (some ⟨g', 0, none⟩) (k + 2) cp') w') := by
        refine ⟨k + 2, g', cp', s + z, qs ++ [⟨A1, B1, pn - h, pm - J, c1, d1, pa.drop h, pb.drop J, ih, jJ⟩, ⟨pA, pB, h, J, pc, pd, pa.take h, pb.take J, pi, pj⟩], L, by rw [Int.natCast_add], rfl, ?_, (((hL.alloc _).alloc _).alloc _).kept q6 (.inr hne), ?_, fun e => ?_, ?_, ⟨?_, ?_⟩, by omega, ?_⟩
        · show _ = _
          rw [List.length_append, HQ.out]
          rfl
        · rw [ptv_append]
          exact q5
        · have h1 := hul g' e
          simp only [Value.ownBlock, Option.some.injEq] at q7
          rcases q7 with q7 | q7
          · rw [q7] at e
            exact hne e
          · omega
        · intro q hq
          simp only [List.mem_append, List.mem_cons, List.not_mem_nil, or_false] at hq
          have i1 := HI.out
          have i2 := HJ.out
          rcases hq with hq | rfl | rfl
          · exact HQo.out q hq
          · exact ⟨HA2.out, HB2.out, q1, q2, by simp only; omega, by simp only; omega, q3, q4⟩
          · exact ⟨HA1.out, HB1.out, by simp only; omega, by simp only; omega, by simp only; omega, by simp only; omega, by rw [← iv_takeX]; exact o7.take h, by rw [← iv_takeX]; exact o8.take J⟩
        · have t := HTT.out
          rw [show qs ++ [(⟨A1, B1, pn - h, pm - J, c1, d1, pa.drop h, pb.drop J, ih, jJ⟩ : Pt), ⟨pA, pB, h, J, pc, pd, pa.take h, pb.take J, pi, pj⟩] = (qs ++ [⟨A1, B1, pn - h, pm - J, c1, d1, pa.drop h, pb.drop J, ih, jJ⟩]) ++ [⟨pA, pB, h, J, pc, pd, pa.take h, pb.take J, pi, pj⟩] by simp, todo_snoc, todo_snoc]
          unfold Pt.hv
          simp only
          rw [← HI.out, ← HJ.out, Int.natCast_add, Int.natCast_add, ← t, List.append_assoc]
        · have t := HNN.out
          rw [show qs ++ [(⟨A1, B1, pn - h, pm - J, c1, d1, pa.drop h, pb.drop J, ih, jJ⟩ : Pt), ⟨pA, pB, h, J, pc, pd, pa.take h, pb.take J, pi, pj⟩] = (qs ++ [⟨A1, B1, pn - h, pm - J, c1, d1, pa.drop h, pb.drop J, ih, jJ⟩]) ++ [⟨pA, pB, h, J, pc, pd, pa.take h, pb.take J, pi, pj⟩] by simp, cost_snoc, cost_snoc]
          unfold Pt.hv
          simp only at t ⊢
          rw [← HI.out, ← HJ.out, Int.natCast_add, Int.natCast_add]
          omega
        · exact (below_al (below_al (below_al hb0 _) _) _).grown q6 (Nat.le_trans hb0.size (by simp; omega)) (fun x e => by simp only [Value.ownBlock, Option.some.injEq] at e; rw [← e]; exact (hP'.lt g rfl).1)
      clear hL hP' hB q5 q6 q7 hb0 q3 q4
      go_wp2_with fail
      go_roundw
      case rel => exact R.out
      case measure => simp [intOf, lenV]; omega

end Go.Proofs.Ytkiijldiofbflaa
