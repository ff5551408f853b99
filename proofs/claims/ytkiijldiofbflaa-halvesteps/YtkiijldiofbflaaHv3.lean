/-
  Contract of package halve's divided.
-/
import Derived.Test.YtkiijldiofbflaaHv2
import Derived.Test.YtkiijldiofbflaaSlc
import Derived.Test.YtkiijldiofbflaaRw4
import Derived.Test.YtkiijldiofbflaaRw5
import Derived.Test.YtkiijldiofbflaaKnK
import Derived.Laws.Rows
namespace Go.Proofs.Ytkiijldiofbflaa
open Go.RowKit

theorem Try.sizePart : (Try.prog.info? 38).map (·.size) = some 4 := by kernel_rfl
theorem bx4_block {w : World} {P : Nat} {x y z u : Value} (h : Bx4 w P x y z u) : w.heap[P]? = some (.cells #[x, y, z, u] 38 (0, 0)) := by
  obtain ⟨c, h1, h2, h3⟩ := h
  rw [h1]
  congr 2
  have e0 := h3 0 (by omega)
  have e1 := h3 1 (by omega)
  have e2 := h3 2 (by omega)
  have e3 := h3 3 (by omega)
  refine Array.ext (by simpa using h2) fun i hi hj => ?_
  have : i = 0 ∨ i = 1 ∨ i = 2 ∨ i = 3 := by omega
  rcases this with rfl | rfl | rfl | rfl
  · rw [Array.getElem?_eq_getElem hi] at e0; injection e0
  · rw [Array.getElem?_eq_getElem hi] at e1; injection e1
  · rw [Array.getElem?_eq_getElem hi] at e2; injection e2
  · rw [Array.getElem?_eq_getElem hi] at e3; injection e3
/-- Two results, each in a block. -/
theorem results_cell2 {P : Program} {fn : Func} {p q : Tmp} {ty : TypeId} (h : fn.results = #[.cell p ty, .cell q ty]) (tmps : Array Value) (w : World) (g g' : Nat) (t : TypeId) (cs cs' : Array Value) (fr : Nat × Nat) (d : TypeDesc)
    (hp : tmps.getD p undef = .pointer (some ⟨g, 0, none⟩)) (hq : tmps.getD q undef = .pointer (some ⟨g', 0, none⟩)) (hg : w.heap[g]? = some (.cells cs t fr)) (hg' : w.heap[g']? = some (.cells cs' t fr))
    (hu : P.underlying ty = some d) (hd : (match d with | .struct _ | .array _ _ => true | _ => false) = true) (hi : (P.info? ty).map (·.size) = some cs.size) (hi' : (P.info? ty).map (·.size) = some cs'.size) :
    (results fn tmps).run P w = .ok (.tuple #[.agg cs, .agg cs']) w := by
  have hp' : tmps[p]?.getD undef = .pointer (some ⟨g, 0, none⟩) := by simpa using hp
  have hq' : tmps[q]?.getD undef = .pointer (some ⟨g', 0, none⟩) := by simpa using hq
  simp [results, h, hp', hq', asAddr, run_loadVar_row w g t ty cs fr d hg hu hd hi, run_loadVar_row w g' t ty cs' fr d hg' hu hd hi']
/-- One of two that are left. -/
theorem held_two {P : Program} {md : Region.Mode} {ops : Array Oper} {Q : Exit → Act → World → Prop} {S : World → Prop} {i j fuel : Nat} {o o' : Oper} {listed : Array Bool} {a : Act} {w : World} (hr : Region.ready md ops listed = [i, j]) (ho : ops[i]? = some o) (ho' : ops[j]? = some o') (hw : Region.wanted o (yielded ops a.tmps) = true) (hw' : Region.wanted o' (yielded ops a.tmps) = true)
    (h : o.wp P a w (fun a' w' => S w' ∧ wpAnyH P md ops Q S fuel (listed.setIfInBounds i true) a' w') Q) (h' : o'.wp P a w (fun a' w' => S w' ∧ wpAnyH P md ops Q S fuel (listed.setIfInBounds j true) a' w') Q) : wpAnyH P md ops Q S (fuel + 1) listed a w := by
  refine wpAnyH_all hr (by simp) fun k hk => ?_
  simp only [List.mem_cons, List.not_mem_nil, or_false] at hk
  unfold wpOp
  rcases hk with rfl | rfl
  · simp only [ho, hw, if_true]
    exact .inl h
  · simp only [ho', hw', if_true]
    exact .inl h'

theorem Bx4.other4 {w : World} {P Q : Nat} {x y z u : Value} (h : Bx4 w P x y z u) (hne : P ≠ Q) (v0 v1 v2 v3 : Value) : Bx4 ((((w.setCell ⟨Q, 0, none⟩ v0).setCell ⟨Q, 1, none⟩ v1).setCell ⟨Q, 2, none⟩ v2).setCell ⟨Q, 3, none⟩ v3) P x y z u := (((h.other hne).other hne).other hne).other hne
theorem grown_set4 {w w1 : World} {b : Option Nat} (h : w.grownBy w1 b) {Q : Nat} (hQ : w.heap.size ≤ Q) (v0 v1 v2 v3 : Value) : w.grownBy ((((w1.setCell ⟨Q, 0, none⟩ v0).setCell ⟨Q, 1, none⟩ v1).setCell ⟨Q, 2, none⟩ v2).setCell ⟨Q, 3, none⟩ v3) b := grown_setS (grown_setS (grown_setS (grown_setS h (.inr hQ)) (.inr hQ)) (.inr hQ)) (.inr hQ)

/-- What the cells of a part read. -/
def Rd4 (P : Nat) (x y z u : Value) (w : World) : Prop := w.cell? ⟨P, 0, none⟩ = some x ∧ w.cell? ⟨P, 1, none⟩ = some y ∧ w.cell? ⟨P, 2, none⟩ = some z ∧ w.cell? ⟨P, 3, none⟩ = some u

theorem Bx4.drew {w : World} {P : Nat} {x y z u : Value} (h : Bx4 w P x y z u) : Bx4 w.drew P x y z u := h
theorem dvd_end {fn : Func} {R : Ending → World → Prop} {a : Act} {W : World} {P Q : Nat} {x y z u x' y' z' u' : Value} (h : fn.results = #[.cell 2 38, .cell 3 38]) (hp : a.tmps.getD 2 undef = .pointer (some ⟨P, 0, none⟩)) (hq : a.tmps.getD 3 undef = .pointer (some ⟨Q, 0, none⟩)) (hd : a.defers = []) (k1 : Bx4 W P x y z u) (k2 : Bx4 W Q x' y' z' u') (hR : R (.returned (.tuple #[.agg #[x, y, z, u], .agg #[x', y', z', u']])) W) : bodyPost Try.prog fn R .ret a W :=
  bodyPost_ret (results_cell2 h _ _ P Q _ _ _ _ _ hp hq (bx4_block k1) (bx4_block k2) Try.underlying38 rfl Try.sizePart Try.sizePart) hd hR

/-- What divided leaves. -/
def Dvd (A B : Option Addr) (n m c d : Nat) (a b : List Int) (i j h J : Nat) (w0 w : World) (e : Ending) (w' : World) : Prop :=
  ∃ (A1 B1 : Option Addr) (c1 d1 : Nat), e = .returned (.tuple #[ptV A h c B J d (i : Int) (j : Int), ptV A1 (n - h) c1 B1 (m - J) d1 ((i + h : Nat) : Int) ((j + J : Nat) : Int)]) ∧ n - h ≤ c1 ∧ m - J ≤ d1 ∧ Row w0 A1 (iv (a.drop h)) ∧ Row w0 B1 (iv (b.drop J)) ∧ Below w.heap.size w w'

set_option maxRecDepth 100000 in
set_option maxHeartbeats 3200000 in
theorem divided_any (A B : Option Addr) (n m c d : Nat) (a b : List Int) (i j : Nat) (w0 w : World) (hn : a.length = n) (hm : b.length = m) (hn2 : 2 ≤ n) (hn' : n ≤ 1048576) (hm' : m ≤ 1048576) (hc : n ≤ c) (hd : m ≤ d) (hi : i ≤ 1048576) (hj : j ≤ 1048576) (h0 : Below w0.heap.size w0 w) (h1 : Row w0 A (iv a)) (h2 : Row w0 B (iv b)) :
    Calls Try.prog 19 #[ptV A n c B m d (i : Int) (j : Int)] w (Dvd A B n m c d a b i j (n / 2) (hjo a b) w0 w) := by
  obtain ⟨h, hh⟩ : ∃ h, n / 2 = h := ⟨_, rfl⟩
  have hq1 : (n : Int) / 2 = (h : Int) := by omega
  have hq2 : (n : Int).tdiv 2 = (h : Int) := by rw [Int.tdiv_eq_ediv_of_nonneg (by omega)]; exact hq1
  have bh : 0 < h ∧ h < n := by omega
  have HJ : Hid ((splitL (frontL (a.take h) b) (backL (a.drop h) b)).1 = hjo a b) := by show _ = _; unfold hjo; rw [hn, hh]
  have hJm : hjo a b ≤ m := by rw [← hm]; exact (hjo_meet (by rw [hn]; exact hn')).1
  generalize hjo a b = J at *
  rw [hh]
  clear hh
  have HFL : Hid ((frontL (a.take h) b).length = m + 1) := by show _ = _; rw [frontL_length, hm]
  have HBL : Hid ((backL (a.drop h) b).length = m + 1) := by show _ = _; rw [backL_length, hm]
  have HTk : Hid ((a.take h).length = h) := by show _ = _; rw [List.length_take, hn]; omega
  have HDk : Hid ((a.drop h).length = n - h) := by show _ = _; rw [List.length_drop, hn]
  obtain ⟨s1, s2⟩ := slice_to A n c h a w0 h1 (by omega)
  obtain ⟨A1, c1, s3, s4, s5⟩ := slice_from A n c h a w0 h1 hn hc (by omega)
  obtain ⟨s6, s7⟩ := slice_to B m d J b w0 h2 (by omega)
  obtain ⟨B1, d1, s8, s9, s10⟩ := slice_from B m d J b w0 h2 hm hd hJm
  have HM := Lib.hid hm
  obtain ⟨ih, hih⟩ : ∃ k, i + h = k := ⟨_, rfl⟩
  obtain ⟨jJ, hjJ⟩ : ∃ k, j + J = k := ⟨_, rfl⟩
  have ew1 : IntKind.i64.wrap ((i : Int) + (h : Int)) = (ih : Int) := by rw [IntWalk.i64_in _ (by omega)]; omega
  have ew2 : IntKind.i64.wrap ((j : Int) + (J : Int)) = (jJ : Int) := by rw [IntWalk.i64_in _ (by omega)]; omega
  have HR : Hid (∀ w', Below w.heap.size w w' → Dvd A B n m c d a b i j h J w0 w (.returned (.tuple #[.agg #[.slice A h c, .slice B J d, .int .i64 (i : Int), .int .i64 (j : Int)], .agg #[.slice A1 (n - h) c1, .slice B1 (m - J) d1, .int .i64 (ih : Int), .int .i64 (jJ : Int)]])) w') := fun w' hb => ⟨A1, B1, c1, d1, by unfold ptV; rw [hih, hjJ], s4, s9, s5, s10, hb⟩
  clear hn hm s4 s9 s10 s7 hih hjJ
  have hmx : Try.prog.follows .mixedOrders = true := by kernel_rfl
  unfold ptV
  go_enter Try.func19, Try.ntmps19
  go_wp2_with fail
  have BX1 : Bx4 (((w.alloc (.cells #[.slice A n c, .slice B m d, .int .i64 (i : Int), .int .i64 (j : Int)] 38)).alloc (.cells #[.slice none 0 0, .slice none 0 0, .int .i64 0, .int .i64 0] 38)).alloc (.cells #[.slice none 0 0, .slice none 0 0, .int .i64 0, .int .i64 0] 38)) w.heap.size (.slice A n c) (.slice B m d) (.int .i64 (i : Int)) (.int .i64 (j : Int)) := ((bx4_new w _ _ _ _).below (below_al (Below.refl _ _) _)).below (below_al (Below.refl _ _) _)
  have BX2 : Bx4 (((w.alloc (.cells #[.slice A n c, .slice B m d, .int .i64 (i : Int), .int .i64 (j : Int)] 38)).alloc (.cells #[.slice none 0 0, .slice none 0 0, .int .i64 0, .int .i64 0] 38)).alloc (.cells #[.slice none 0 0, .slice none 0 0, .int .i64 0, .int .i64 0] 38)) (w.heap.size + 1) (.slice none 0 0) (.slice none 0 0) (.int .i64 0) (.int .i64 0) := by
    have := (bx4_new (w.alloc (.cells #[.slice A n c, .slice B m d, .int .i64 (i : Int), .int .i64 (j : Int)] 38)) (.slice none 0 0) (.slice none 0 0) (.int .i64 0) (.int .i64 0)).below (below_al (Below.refl _ _) (.cells #[.slice none 0 0, .slice none 0 0, .int .i64 0, .int .i64 0] 38))
    simpa using this
  have BX3 : Bx4 (((w.alloc (.cells #[.slice A n c, .slice B m d, .int .i64 (i : Int), .int .i64 (j : Int)] 38)).alloc (.cells #[.slice none 0 0, .slice none 0 0, .int .i64 0, .int .i64 0] 38)).alloc (.cells #[.slice none 0 0, .slice none 0 0, .int .i64 0, .int .i64 0] 38)) (w.heap.size + 1 + 1) (.slice none 0 0) (.slice none 0 0) (.int .i64 0) (.int .i64 0) := by
    have := bx4_new ((w.alloc (.cells #[.slice A n c, .slice B m d, .int .i64 (i : Int), .int .i64 (j : Int)] 38)).alloc (.cells #[.slice none 0 0, .slice none 0 0, .int .i64 0, .int .i64 0] 38)) (.slice none 0 0) (.slice none 0 0) (.int .i64 0) (.int .i64 0)
    simpa using this
  have BB : Below w.heap.size w (((w.alloc (.cells #[.slice A n c, .slice B m d, .int .i64 (i : Int), .int .i64 (j : Int)] 38)).alloc (.cells #[.slice none 0 0, .slice none 0 0, .int .i64 0, .int .i64 0] 38)).alloc (.cells #[.slice none 0 0, .slice none 0 0, .int .i64 0, .int .i64 0] 38)) := below_al (below_al (below_al (Below.refl _ _) _) _) _
  generalize (((w.alloc (.cells #[.slice A n c, .slice B m d, .int .i64 (i : Int), .int .i64 (j : Int)] 38)).alloc (.cells #[.slice none 0 0, .slice none 0 0, .int .i64 0, .int .i64 0] 38)).alloc (.cells #[.slice none 0 0, .slice none 0 0, .int .i64 0, .int .i64 0] 38)) = w2 at *
  have r_t := (s2.below h0).below BB
  have r_d := (s5.below h0).below BB
  have r_b := (h2.below h0).below BB
  clear h0 h1 h2 s2 s5
  obtain ⟨P, hP⟩ : ∃ P, w.heap.size = P := ⟨_, rfl⟩
  have HP := Lib.hid hP
  rw [hP]
  rw [hP] at BX1 BX2 BX3
  clear hP
  refine wp_region_held (S := Rd4 P (.slice A n c) (.slice B m d) (.int .i64 (i : Int)) (.int .i64 (j : Int))) hmx ?_
  refine wpAnyH_take (i := 0) (v := ?v1) rfl (by kernel_rfl) (by kernel_rfl) (by kernel_rfl) (fun _ _ _ h => h) (.inl ⟨by kernel_rfl, ?y1⟩) (Bx4.cells BX1) ?_
  case y1 =>
    rintro w' ⟨c0, c1, c2, c3⟩
    go_simp
    first | done | with_reducible rfl | rfl
  try simp only [Act.put]
  refine wpAnyH_take (i := 1) (v := ?v2) rfl (by kernel_rfl) (by kernel_rfl) (by kernel_rfl) (fun _ _ _ h => h) (.inl ⟨by kernel_rfl, ?y2⟩) (Bx4.cells BX1) ?_
  case y2 =>
    rintro w' ⟨c0, c1, c2, c3⟩
    go_simp
    first | done | with_reducible rfl | rfl
  try simp only [Act.put]
  refine wpAnyH_take (i := 2) (v := ?v3) rfl (by kernel_rfl) (by kernel_rfl) (by kernel_rfl) (fun _ _ _ h => h) (.inl ⟨by kernel_rfl, ?y3⟩) (Bx4.cells BX1) ?_
  case y3 =>
    rintro w' ⟨c0, c1, c2, c3⟩
    go_simp
    first | done | with_reducible rfl | rfl
  try simp only [Act.put]
  refine wpAnyH_take (i := 3) (v := ?v4) rfl (by kernel_rfl) (by kernel_rfl) (by kernel_rfl) (fun _ _ _ h => h) (.inl ⟨by kernel_rfl, ?y4⟩) (Bx4.cells BX1) ?_
  case y4 =>
    rintro w' ⟨c0, c1, c2, c3⟩
    go_simp
    first | done | with_reducible rfl | rfl
  try simp only [Act.put]
  refine wpAnyH_take (i := 4) (v := ?v5) rfl (by kernel_rfl) (by kernel_rfl) (by kernel_rfl) (fun _ _ _ h => h) (.inl ⟨by kernel_rfl, ?y5⟩) (Bx4.cells BX1) ?_
  case y5 =>
    rintro w' ⟨c0, c1, c2, c3⟩
    go_simp
    first | done | with_reducible rfl | rfl
  try simp only [Act.put]
  refine wpAnyH_take (i := 5) (v := ?v6) rfl (by kernel_rfl) (by kernel_rfl) (by kernel_rfl) (fun _ _ _ h => h) (.inl ⟨by kernel_rfl, ?y6⟩) (Bx4.cells BX1) ?_
  case y6 =>
    rintro w' ⟨c0, c1, c2, c3⟩
    go_simp
    first | done | with_reducible rfl | rfl
  try simp only [Act.put]
  refine wpAnyH_take (i := 7) (v := ?v7) rfl (by kernel_rfl) (by kernel_rfl) (by kernel_rfl) (fun _ _ _ h => h) (.inl ⟨by kernel_rfl, ?y7⟩) (Bx4.cells BX1) ?_
  case y7 =>
    rintro w' ⟨c0, c1, c2, c3⟩
    go_simp
    first | done | with_reducible rfl | rfl
  try simp only [Act.put]
  refine wpAnyH_take (i := 8) (v := ?v8) rfl (by kernel_rfl) (by kernel_rfl) (by kernel_rfl) (fun _ _ _ h => h) (.inl ⟨by kernel_rfl, ?y8⟩) (Bx4.cells BX1) ?_
  case y8 =>
    rintro w' ⟨c0, c1, c2, c3⟩
    go_simp
    first | done | with_reducible rfl | rfl
  try simp only [Act.put]
  refine wpAnyH_take (i := 9) (v := ?v9) rfl (by kernel_rfl) (by kernel_rfl) (by kernel_rfl) (fun _ _ _ h => h) (.inl ⟨by kernel_rfl, ?y9⟩) (Bx4.cells BX1) ?_
  case y9 =>
    rintro w' ⟨c0, c1, c2, c3⟩
    go_simp
    first | done | with_reducible rfl | rfl
  try simp only [Act.put]
  refine wpAnyH_take (i := 10) (v := ?v10) rfl (by kernel_rfl) (by kernel_rfl) (by kernel_rfl) (fun _ _ _ h => h) (.inl ⟨by kernel_rfl, ?y10⟩) (Bx4.cells BX1) ?_
  case y10 =>
    rintro w' ⟨c0, c1, c2, c3⟩
    go_simp
    first | done | with_reducible rfl | rfl
  try simp only [Act.put]
  refine wpAnyH_take (i := 11) (v := ?v11) rfl (by kernel_rfl) (by kernel_rfl) (by kernel_rfl) (fun _ _ _ h => h) (.inl ⟨by kernel_rfl, ?y11⟩) (Bx4.cells BX1) ?_
  case y11 =>
    rintro w' ⟨c0, c1, c2, c3⟩
    go_simp
    first | done | with_reducible rfl | rfl
  try simp only [Act.put]
  refine wpAnyH_take (i := 12) (v := ?v12) rfl (by kernel_rfl) (by kernel_rfl) (by kernel_rfl) (fun _ _ _ h => h) (.inl ⟨by kernel_rfl, ?y12⟩) (Bx4.cells BX1) ?_
  case y12 =>
    rintro w' ⟨c0, c1, c2, c3⟩
    go_simp
    first | done | with_reducible rfl | rfl
  try simp only [Act.put]
  refine held_one (i := 6) (by kernel_rfl) rfl (by kernel_rfl) ?_
  unfold Oper.wp
  go_simp
  refine (front_any A B h m c d (a.take h) b w2.drew HTk.out HM.out (by omega) (by omega) r_t.drew r_b.drew).mono ?_
  rintro e w5 ⟨v, rfl, hv, hb5⟩
  rw [HFL.out] at hv
  obtain ⟨V5, c5, rfl, _, _, r5, _⟩ := own_slice hv
  clear hv
  have BX15 : Bx4 w5 P _ _ _ _ := Bx4.below (w := w2.drew) BX1 hb5
  have BX25 : Bx4 w5 (P + 1) _ _ _ _ := Bx4.below (w := w2.drew) BX2 hb5
  have BX35 : Bx4 w5 (P + 1 + 1) _ _ _ _ := Bx4.below (w := w2.drew) BX3 hb5
  have BB5 := below_go BB.drew hb5
  have rb5 := Row.below (w := w2.drew) r_b hb5
  have rd5 := Row.below (w := w2.drew) r_d hb5
  clear r_t r_b r_d BB hb5 BX1 BX2 BX3
  refine ⟨(Bx4.cells BX15), ?_⟩
  try simp only [Act.put]
  refine held_one (i := 13) (by kernel_rfl) rfl (by kernel_rfl) ?_
  unfold Oper.wp
  go_simp
  refine (back_any A1 B (n - h) m c1 d (a.drop h) b w5 HDk.out HM.out (by omega) (by omega) rd5 rb5).mono ?_
  rintro e w6 ⟨v, rfl, hv, hb6⟩
  rw [HBL.out] at hv
  obtain ⟨V6, c6, rfl, _, _, r6, _⟩ := own_slice hv
  clear hv
  have BB6 := below_go BB5 hb6
  replace r5 := r5.below hb6
  have BX16 := BX15.below hb6
  have BX26 := BX25.below hb6
  have BX36 := BX35.below hb6
  clear rd5 rb5 BB5 hb6 BX15 BX25 BX35
  refine ⟨(Bx4.cells BX16), ?_⟩
  try simp only [Act.put]
  refine held_one (i := 14) (by kernel_rfl) rfl (by kernel_rfl) ?_
  unfold Oper.wp
  go_simp
  refine (rsplit_any V5 V6 (m + 1) (m + 1) c5 c6 (frontL (a.take h) b) (backL (a.drop h) b) w6 HFL.out HBL.out (by omega) r5 r6).mono ?_
  rintro e w7 ⟨rfl, q, hq⟩
  rw [HJ.out]
  have hb7 := below_of hq
  have BB7 := below_go BB6 hb7
  have BX1 := BX16.below hb7
  have BX2 := BX26.below hb7
  have BX3 := BX36.below hb7
  clear hq hb7 BB6 BX16 BX26 BX36 r5 r6 HJ
  refine ⟨(Bx4.cells BX1), ?_⟩
  try simp only [Act.put]
  refine wpAnyH_take (i := 15) (v := ?v13) rfl (by kernel_rfl) (by kernel_rfl) (by kernel_rfl) (fun _ _ _ h => h) (.inl ⟨by kernel_rfl, ?y13⟩) (Bx4.cells BX1) ?_
  case y13 =>
    rintro w' ⟨c0, c1, c2, c3⟩
    go_simp
    first | done | with_reducible rfl | rfl
  try simp only [Act.put]
  refine wpAnyH_take (i := 16) (v := ?v14) rfl (by kernel_rfl) (by kernel_rfl) (by kernel_rfl) (fun _ _ _ h => h) (.inl ⟨by kernel_rfl, ?y14⟩) (Bx4.cells BX1) ?_
  case y14 =>
    rintro w' ⟨c0, c1, c2, c3⟩
    go_simp
    first | done | with_reducible rfl | rfl
  try simp only [Act.put]
  refine wpAnyH_take (i := 17) (v := ?v15) rfl (by kernel_rfl) (by kernel_rfl) (by kernel_rfl) (fun _ _ _ h => h) (.inl ⟨by kernel_rfl, ?y15⟩) (Bx4.cells BX1) ?_
  case y15 =>
    rintro w' ⟨c0, c1, c2, c3⟩
    go_simp
    first | done | with_reducible rfl | rfl
  try simp only [Act.put]
  refine wpAnyH_take (i := 18) (v := ?v16) rfl (by kernel_rfl) (by kernel_rfl) (by kernel_rfl) (fun _ _ _ h => h) (.inl ⟨by kernel_rfl, ?y16⟩) (Bx4.cells BX1) ?_
  case y16 =>
    rintro w' ⟨c0, c1, c2, c3⟩
    go_simp
    first | done | with_reducible rfl | rfl
  try simp only [Act.put]
  refine wpAnyH_take (i := 19) (v := ?v17) rfl (by kernel_rfl) (by kernel_rfl) (by kernel_rfl) (fun _ _ _ h => h) (.inl ⟨by kernel_rfl, ?y17⟩) (Bx4.cells BX1) ?_
  case y17 =>
    rintro w' ⟨c0, c1, c2, c3⟩
    go_simp
    first | done | with_reducible rfl | rfl
  try simp only [Act.put]
  refine held_done (by kernel_rfl) ?_
  go_simp
  have GG := below_grown BB7 none
  clear BB7
  obtain ⟨x0, x1, x2, x3⟩ := BX2.cells
  have f0 := BX2.frozen 0
  have f1 := BX2.frozen 1
  have f2 := BX2.frozen 2
  have f3 := BX2.frozen 3
  go_wp2_with fail
  refine wp_region_held (S := Rd4 P (.slice A n c) (.slice B m d) (.int .i64 (i : Int)) (.int .i64 (j : Int))) hmx ?_
  refine wpAnyH_take (i := 0) (v := ?v18) rfl (by kernel_rfl) (by kernel_rfl) (by kernel_rfl) (fun _ _ _ h => h) (.inl ⟨by kernel_rfl, ?y18⟩) (Bx4.cells BX1) ?_
  case y18 =>
    rintro w' ⟨c0, c1, c2, c3⟩
    go_simp
    first | done | with_reducible rfl | rfl
  try simp only [Act.put]
  refine wpAnyH_take (i := 1) (v := ?v19) rfl (by kernel_rfl) (by kernel_rfl) (by kernel_rfl) (fun _ _ _ h => h) (.inl ⟨by kernel_rfl, ?y19⟩) (Bx4.cells BX1) ?_
  case y19 =>
    rintro w' ⟨c0, c1, c2, c3⟩
    go_simp
    first | done | with_reducible rfl | rfl
  try simp only [Act.put]
  refine wpAnyH_take (i := 2) (v := ?v20) rfl (by kernel_rfl) (by kernel_rfl) (by kernel_rfl) (fun _ _ _ h => h) (.inl ⟨by kernel_rfl, ?y20⟩) (Bx4.cells BX1) ?_
  case y20 =>
    rintro w' ⟨c0, c1, c2, c3⟩
    go_simp
    first | done | with_reducible rfl | rfl
  try simp only [Act.put]
  refine wpAnyH_take (i := 3) (v := ?v21) rfl (by kernel_rfl) (by kernel_rfl) (by kernel_rfl) (fun _ _ _ h => h) (.inl ⟨by kernel_rfl, ?y21⟩) (Bx4.cells BX1) ?_
  case y21 =>
    rintro w' ⟨c0, c1, c2, c3⟩
    go_simp
    first | done | with_reducible rfl | rfl
  try simp only [Act.put]
  refine wpAnyH_take (i := 4) (v := ?v22) rfl (by kernel_rfl) (by kernel_rfl) (by kernel_rfl) (fun _ _ _ h => h) (.inl ⟨by kernel_rfl, ?y22⟩) (Bx4.cells BX1) ?_
  case y22 =>
    rintro w' ⟨c0, c1, c2, c3⟩
    go_simp
    first | done | with_reducible rfl | rfl
  try simp only [Act.put]
  refine wpAnyH_take (i := 5) (v := ?v23) rfl (by kernel_rfl) (by kernel_rfl) (by kernel_rfl) (fun _ _ _ h => h) (.inl ⟨by kernel_rfl, ?y23⟩) (Bx4.cells BX1) ?_
  case y23 =>
    rintro w' ⟨c0, c1, c2, c3⟩
    go_simp
    first | done | with_reducible rfl | rfl
  try simp only [Act.put]
  refine wpAnyH_take (i := 6) (v := ?v24) rfl (by kernel_rfl) (by kernel_rfl) (by kernel_rfl) (fun _ _ _ h => h) (.inl ⟨by kernel_rfl, ?y24⟩) (Bx4.cells BX1) ?_
  case y24 =>
    rintro w' ⟨c0, c1, c2, c3⟩
    go_simp
    first | done | with_reducible rfl | rfl
  try simp only [Act.put]
  refine wpAnyH_take (i := 7) (v := ?v25) rfl (by kernel_rfl) (by kernel_rfl) (by kernel_rfl) (fun _ _ _ h => h) (.inl ⟨by kernel_rfl, ?y25⟩) (Bx4.cells BX1) ?_
  case y25 =>
    rintro w' ⟨c0, c1, c2, c3⟩
    go_simp
    first | done | with_reducible rfl | rfl
  try simp only [Act.put]
  refine wpAnyH_take (i := 8) (v := ?v26) rfl (by kernel_rfl) (by kernel_rfl) (by kernel_rfl) (fun _ _ _ h => h) (.inl ⟨by kernel_rfl, ?y26⟩) (Bx4.cells BX1) ?_
  case y26 =>
    rintro w' ⟨c0, c1, c2, c3⟩
    go_simp
    first | done | with_reducible rfl | rfl
  try simp only [Act.put]
  refine wpAnyH_take (i := 9) (v := ?v27) rfl (by kernel_rfl) (by kernel_rfl) (by kernel_rfl) (fun _ _ _ h => h) (.inl ⟨by kernel_rfl, ?y27⟩) (Bx4.cells BX1) ?_
  case y27 =>
    rintro w' ⟨c0, c1, c2, c3⟩
    go_simp
    first | done | with_reducible rfl | rfl
  try simp only [Act.put]
  refine wpAnyH_take (i := 10) (v := ?v28) rfl (by kernel_rfl) (by kernel_rfl) (by kernel_rfl) (fun _ _ _ h => h) (.inl ⟨by kernel_rfl, ?y28⟩) (Bx4.cells BX1) ?_
  case y28 =>
    rintro w' ⟨c0, c1, c2, c3⟩
    go_simp
    first | done | with_reducible rfl | rfl
  try simp only [Act.put]
  refine wpAnyH_take (i := 11) (v := ?v29) rfl (by kernel_rfl) (by kernel_rfl) (by kernel_rfl) (fun _ _ _ h => h) (.inl ⟨by kernel_rfl, ?y29⟩) (Bx4.cells BX1) ?_
  case y29 =>
    rintro w' ⟨c0, c1, c2, c3⟩
    go_simp
    first | done | with_reducible rfl | rfl
  try simp only [Act.put]
  refine wpAnyH_take (i := 12) (v := ?v30) rfl (by kernel_rfl) (by kernel_rfl) (by kernel_rfl) (fun _ _ _ h => h) (.inl ⟨by kernel_rfl, ?y30⟩) (Bx4.cells BX1) ?_
  case y30 =>
    rintro w' ⟨c0, c1, c2, c3⟩
    go_simp
    first | done | with_reducible rfl | rfl
  try simp only [Act.put]
  refine held_one (i := 13) (by kernel_rfl) rfl (by kernel_rfl) ?_
  unfold Oper.wp
  go_simp
  have N_BX2 : Bx4 _ (P + 1) (.slice A h c) (.slice B J d) (.int .i64 (i : Int)) (.int .i64 (j : Int)) := Bx4.set BX2 (.slice A h c) (.slice B J d) (.int .i64 (i : Int)) (.int .i64 (j : Int))
  have N_BX1 := Bx4.other4 BX1 (Q := (P + 1)) (by omega) (.slice A h c) (.slice B J d) (.int .i64 (i : Int)) (.int .i64 (j : Int))
  have N_BX3 := Bx4.other4 BX3 (Q := (P + 1)) (by omega) (.slice A h c) (.slice B J d) (.int .i64 (i : Int)) (.int .i64 (j : Int))
  have N_G := grown_set4 GG (Q := (P + 1)) (by rw [HP.out]; omega) (.slice A h c) (.slice B J d) (.int .i64 (i : Int)) (.int .i64 (j : Int))
  clear GG x0 x1 x2 x3 f0 f1 f2 f3 BX2 BX1 BX3
  generalize (((w7.setCell ⟨P + 1, 0, none⟩ (.slice A h c)).setCell ⟨P + 1, 1, none⟩ (.slice B J d)).setCell ⟨P + 1, 2, none⟩ (.int .i64 (i : Int))).setCell ⟨P + 1, 3, none⟩ (.int .i64 (j : Int)) = w8 at *
  refine ⟨(Bx4.cells N_BX1), ?_⟩
  try simp only [Act.put]
  refine held_done (by kernel_rfl) ?_
  go_simp
  replace N_BX1 : Bx4 w8.drew P _ _ _ _ := N_BX1
  replace N_BX2 : Bx4 w8.drew (P + 1) _ _ _ _ := N_BX2
  replace N_BX3 : Bx4 w8.drew (P + 1 + 1) _ _ _ _ := N_BX3
  replace N_G := grown_drew N_G
  generalize w8.drew = w9 at *
  obtain ⟨x0, x1, x2, x3⟩ := N_BX3.cells
  have f0 := N_BX3.frozen 0
  have f1 := N_BX3.frozen 1
  have f2 := N_BX3.frozen 2
  have f3 := N_BX3.frozen 3
  go_wp2_with fail
  refine wp_region_held (S := Rd4 P (.slice A n c) (.slice B m d) (.int .i64 (i : Int)) (.int .i64 (j : Int))) hmx ?_
  refine wpAnyH_take (i := 0) (v := ?v31) rfl (by kernel_rfl) (by kernel_rfl) (by kernel_rfl) (fun _ _ _ h => h) (.inl ⟨by kernel_rfl, ?y31⟩) (Bx4.cells N_BX1) ?_
  case y31 =>
    rintro w' ⟨c0, c1, c2, c3⟩
    go_simp
    first | done | with_reducible rfl | rfl
  try simp only [Act.put]
  refine wpAnyH_take (i := 1) (v := ?v32) rfl (by kernel_rfl) (by kernel_rfl) (by kernel_rfl) (fun _ _ _ h => h) (.inl ⟨by kernel_rfl, ?y32⟩) (Bx4.cells N_BX1) ?_
  case y32 =>
    rintro w' ⟨c0, c1, c2, c3⟩
    go_simp
    first | done | with_reducible rfl | rfl
  try simp only [Act.put]
  refine wpAnyH_take (i := 2) (v := ?v33) rfl (by kernel_rfl) (by kernel_rfl) (by kernel_rfl) (fun _ _ _ h => h) (.inl ⟨by kernel_rfl, ?y33⟩) (Bx4.cells N_BX1) ?_
  case y33 =>
    rintro w' ⟨c0, c1, c2, c3⟩
    go_simp
    first | done | with_reducible rfl | rfl
  try simp only [Act.put]
  refine wpAnyH_take (i := 3) (v := ?v34) rfl (by kernel_rfl) (by kernel_rfl) (by kernel_rfl) (fun _ _ _ h => h) (.inl ⟨by kernel_rfl, ?y34⟩) (Bx4.cells N_BX1) ?_
  case y34 =>
    rintro w' ⟨c0, c1, c2, c3⟩
    go_simp
    first | done | with_reducible rfl | rfl
  try simp only [Act.put]
  refine wpAnyH_take (i := 4) (v := ?v35) rfl (by kernel_rfl) (by kernel_rfl) (by kernel_rfl) (fun _ _ _ h => h) (.inl ⟨by kernel_rfl, ?y35⟩) (Bx4.cells N_BX1) ?_
  case y35 =>
    rintro w' ⟨c0, c1, c2, c3⟩
    go_simp
    first | done | with_reducible rfl | rfl
  try simp only [Act.put]
  refine wpAnyH_take (i := 5) (v := ?v36) rfl (by kernel_rfl) (by kernel_rfl) (by kernel_rfl) (fun _ _ _ h => h) (.inl ⟨by kernel_rfl, ?y36⟩) (Bx4.cells N_BX1) ?_
  case y36 =>
    rintro w' ⟨c0, c1, c2, c3⟩
    go_simp
    first | done | with_reducible rfl | rfl
  try simp only [Act.put]
  refine wpAnyH_take (i := 6) (v := ?v37) rfl (by kernel_rfl) (by kernel_rfl) (by kernel_rfl) (fun _ _ _ h => h) (.inl ⟨by kernel_rfl, ?y37⟩) (Bx4.cells N_BX1) ?_
  case y37 =>
    rintro w' ⟨c0, c1, c2, c3⟩
    go_simp
    first | done | with_reducible rfl | rfl
  try simp only [Act.put]
  refine wpAnyH_take (i := 7) (v := ?v38) rfl (by kernel_rfl) (by kernel_rfl) (by kernel_rfl) (fun _ _ _ h => h) (.inl ⟨by kernel_rfl, ?y38⟩) (Bx4.cells N_BX1) ?_
  case y38 =>
    rintro w' ⟨c0, c1, c2, c3⟩
    go_simp
    first | done | with_reducible rfl | rfl
  try simp only [Act.put]
  refine wpAnyH_take (i := 8) (v := ?v39) rfl (by kernel_rfl) (by kernel_rfl) (by kernel_rfl) (fun _ _ _ h => h) (.inl ⟨by kernel_rfl, ?y39⟩) (Bx4.cells N_BX1) ?_
  case y39 =>
    rintro w' ⟨c0, c1, c2, c3⟩
    go_simp
    first | done | with_reducible rfl | rfl
  try simp only [Act.put]
  refine wpAnyH_take (i := 9) (v := ?v40) rfl (by kernel_rfl) (by kernel_rfl) (by kernel_rfl) (fun _ _ _ h => h) (.inl ⟨by kernel_rfl, ?y40⟩) (Bx4.cells N_BX1) ?_
  case y40 =>
    rintro w' ⟨c0, c1, c2, c3⟩
    go_simp
    first | done | with_reducible rfl | rfl
  try simp only [Act.put]
  refine wpAnyH_take (i := 10) (v := ?v41) rfl (by kernel_rfl) (by kernel_rfl) (by kernel_rfl) (fun _ _ _ h => h) (.inl ⟨by kernel_rfl, ?y41⟩) (Bx4.cells N_BX1) ?_
  case y41 =>
    rintro w' ⟨c0, c1, c2, c3⟩
    go_simp
    first | done | with_reducible rfl | rfl
  try simp only [Act.put]
  refine wpAnyH_take (i := 11) (v := ?v42) rfl (by kernel_rfl) (by kernel_rfl) (by kernel_rfl) (fun _ _ _ h => h) (.inl ⟨by kernel_rfl, ?y42⟩) (Bx4.cells N_BX1) ?_
  case y42 =>
    rintro w' ⟨c0, c1, c2, c3⟩
    go_simp
    first | done | with_reducible rfl | rfl
  try simp only [Act.put]
  refine wpAnyH_take (i := 12) (v := ?v43) rfl (by kernel_rfl) (by kernel_rfl) (by kernel_rfl) (fun _ _ _ h => h) (.inl ⟨by kernel_rfl, ?y43⟩) (Bx4.cells N_BX1) ?_
  case y43 =>
    rintro w' ⟨c0, c1, c2, c3⟩
    go_simp
    first | done | with_reducible rfl | rfl
  try simp only [Act.put]
  refine wpAnyH_take (i := 13) (v := ?v44) rfl (by kernel_rfl) (by kernel_rfl) (by kernel_rfl) (fun _ _ _ h => h) (.inl ⟨by kernel_rfl, ?y44⟩) (Bx4.cells N_BX1) ?_
  case y44 =>
    rintro w' ⟨c0, c1, c2, c3⟩
    go_simp
    first | done | with_reducible rfl | rfl
  try simp only [Act.put]
  refine wpAnyH_take (i := 14) (v := ?v45) rfl (by kernel_rfl) (by kernel_rfl) (by kernel_rfl) (fun _ _ _ h => h) (.inl ⟨by kernel_rfl, ?y45⟩) (Bx4.cells N_BX1) ?_
  case y45 =>
    rintro w' ⟨c0, c1, c2, c3⟩
    go_simp
    first | done | with_reducible rfl | rfl
  try simp only [Act.put]
  refine wpAnyH_take (i := 15) (v := ?v46) rfl (by kernel_rfl) (by kernel_rfl) (by kernel_rfl) (fun _ _ _ h => h) (.inl ⟨by kernel_rfl, ?y46⟩) (Bx4.cells N_BX1) ?_
  case y46 =>
    rintro w' ⟨c0, c1, c2, c3⟩
    go_simp
    first | done | with_reducible rfl | rfl
  try simp only [Act.put]
  refine wpAnyH_take (i := 16) (v := ?v47) rfl (by kernel_rfl) (by kernel_rfl) (by kernel_rfl) (fun _ _ _ h => h) (.inl ⟨by kernel_rfl, ?y47⟩) (Bx4.cells N_BX1) ?_
  case y47 =>
    rintro w' ⟨c0, c1, c2, c3⟩
    go_simp
    first | done | with_reducible rfl | rfl
  try simp only [Act.put]
  have GG := N_G
  have BX1 := N_BX1
  have BX2 := N_BX2
  have BX3 := N_BX3
  clear N_G N_BX1 N_BX2 N_BX3
  refine held_one (i := 17) (by kernel_rfl) rfl (by kernel_rfl) ?_
  unfold Oper.wp
  go_simp
  have N_BX3 : Bx4 _ (P + 1 + 1) (.slice A1 (n - h) c1) (.slice B1 (m - J) d1) (.int .i64 (ih : Int)) (.int .i64 (jJ : Int)) := Bx4.set BX3 (.slice A1 (n - h) c1) (.slice B1 (m - J) d1) (.int .i64 (ih : Int)) (.int .i64 (jJ : Int))
  have N_BX1 := Bx4.other4 BX1 (Q := (P + 1 + 1)) (by omega) (.slice A1 (n - h) c1) (.slice B1 (m - J) d1) (.int .i64 (ih : Int)) (.int .i64 (jJ : Int))
  have N_BX2 := Bx4.other4 BX2 (Q := (P + 1 + 1)) (by omega) (.slice A1 (n - h) c1) (.slice B1 (m - J) d1) (.int .i64 (ih : Int)) (.int .i64 (jJ : Int))
  have N_G := grown_set4 GG (Q := (P + 1 + 1)) (by rw [HP.out]; omega) (.slice A1 (n - h) c1) (.slice B1 (m - J) d1) (.int .i64 (ih : Int)) (.int .i64 (jJ : Int))
  clear GG x0 x1 x2 x3 f0 f1 f2 f3 BX3 BX1 BX2
  generalize (((w9.setCell ⟨P + 1 + 1, 0, none⟩ (.slice A1 (n - h) c1)).setCell ⟨P + 1 + 1, 1, none⟩ (.slice B1 (m - J) d1)).setCell ⟨P + 1 + 1, 2, none⟩ (.int .i64 (ih : Int))).setCell ⟨P + 1 + 1, 3, none⟩ (.int .i64 (jJ : Int)) = w10 at *
  refine ⟨(Bx4.cells N_BX1), ?_⟩
  try simp only [Act.put]
  refine held_done (by kernel_rfl) ?_
  go_simp
  replace N_BX2 : Bx4 w10.drew (P + 1) _ _ _ _ := N_BX2
  replace N_BX3 : Bx4 w10.drew (P + 1 + 1) _ _ _ _ := N_BX3
  replace N_G := grown_drew N_G
  generalize w10.drew = w11 at *
  clear N_BX1 s1 s3 s6 s8 hq1 hq2
  obtain ⟨x0, x1, x2, x3⟩ := N_BX2.cells
  obtain ⟨y0, y1, y2, y3⟩ := N_BX3.cells
  have f0 := N_BX2.frozen 0
  have f1 := N_BX2.frozen 1
  have f2 := N_BX2.frozen 2
  have f3 := N_BX2.frozen 3
  have g0 := N_BX3.frozen 0
  have g1 := N_BX3.frozen 1
  have g2 := N_BX3.frozen 2
  have g3 := N_BX3.frozen 3
  have K1 := Lib.hid ((N_BX2.set (.slice A h c) (.slice B J d) (.int .i64 (i : Int)) (.int .i64 (j : Int))).other4 (Q := P + 1 + 1) (by omega) (.slice A1 (n - h) c1) (.slice B1 (m - J) d1) (.int .i64 (ih : Int)) (.int .i64 (jJ : Int)))
  have K2 := Lib.hid ((N_BX3.other4 (Q := P + 1) (by omega) (.slice A h c) (.slice B J d) (.int .i64 (i : Int)) (.int .i64 (j : Int))).set (.slice A1 (n - h) c1) (.slice B1 (m - J) d1) (.int .i64 (ih : Int)) (.int .i64 (jJ : Int)))
  have K3 := Lib.hid ((N_BX2.other4 (Q := P + 1 + 1) (by omega) (.slice A1 (n - h) c1) (.slice B1 (m - J) d1) (.int .i64 (ih : Int)) (.int .i64 (jJ : Int))).set (.slice A h c) (.slice B J d) (.int .i64 (i : Int)) (.int .i64 (j : Int)))
  have K4 := Lib.hid ((N_BX3.set (.slice A1 (n - h) c1) (.slice B1 (m - J) d1) (.int .i64 (ih : Int)) (.int .i64 (jJ : Int))).other4 (Q := P + 1) (by omega) (.slice A h c) (.slice B J d) (.int .i64 (i : Int)) (.int .i64 (j : Int)))
  have G1 := Lib.hid (grown_below (grown_set4 (grown_set4 N_G (Q := P + 1) (by rw [HP.out]; omega) (.slice A h c) (.slice B J d) (.int .i64 (i : Int)) (.int .i64 (j : Int))) (Q := P + 1 + 1) (by rw [HP.out]; omega) (.slice A1 (n - h) c1) (.slice B1 (m - J) d1) (.int .i64 (ih : Int)) (.int .i64 (jJ : Int))) (Nat.le_refl _) (fun k e => by cases e))
  have G2 := Lib.hid (grown_below (grown_set4 (grown_set4 N_G (Q := P + 1 + 1) (by rw [HP.out]; omega) (.slice A1 (n - h) c1) (.slice B1 (m - J) d1) (.int .i64 (ih : Int)) (.int .i64 (jJ : Int))) (Q := P + 1) (by rw [HP.out]; omega) (.slice A h c) (.slice B J d) (.int .i64 (i : Int)) (.int .i64 (j : Int))) (Nat.le_refl _) (fun k e => by cases e))
  go_wp2_with fail
  go_region
  all_goals (
    go_wp2_with fail
    refine dvd_end (P := P + 1) (Q := P + 1 + 1) rfl rfl rfl rfl ?k1 ?k2 (HR.out _ ?g1)
    case k1 => first | with_reducible exact K1.out.drew | with_reducible exact K3.out.drew
    case k2 => first | with_reducible exact K2.out.drew | with_reducible exact K4.out.drew
    case g1 => first | with_reducible exact below_drew G1.out | with_reducible exact below_drew G2.out)

end Go.Proofs.Ytkiijldiofbflaa
