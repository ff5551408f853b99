/-
  Words and contracts that the proof leans on.
-/
import Derived.Test.YtncbhnmhaoblaaaM3
import Derived.Test.YtncbhnmhaoblaaaM4
import Derived.Test.YtncbhnmhaoblaaaM11
import Derived.Maps.AppendAt
import Derived.Deep.DeepCutAuto
namespace Go.Proofs.Ytncbhnmhaoblaaa
open Go.RowKit

theorem Try.infoPartMk1 : (Try.prog.info? 73).map (fun i => (i.zero, i.size, i.bytes)) = some (some (.agg #[.int .i64 0, .int .u64 0]), 2, 16) := by kernel_rfl
theorem one_part (x y : Int) : ∀ u ∈ [Value.int .i64 x, Value.int .u64 y], u.oneCell' = true := by
  intro u hu
  simp at hu
  rcases hu with rfl | rfl <;> rfl

/-- What with leaves. -/
def WithMade (g : Nat → Bool) (J base : Nat) (v : Value) (w : World) (e : Ending) (w' : World) : Prop :=
  ∃ v' ps', e = .returned v' ∧ w'.ownsRow base 73 2 v' ps'.length (ptvMkP ps') ∧ Parts ps' (J + 1) g ∧ w.grownBy w' v.ownBlock ∧ (v'.ownBlock = v.ownBlock ∨ ∃ b, v'.ownBlock = some b ∧ w.heap.size ≤ b)

theorem ptv_set (qs : List PtMkP) (a u u' : Nat) : (ptvMkP (qs ++ [(a, u)])).set (qs.length * 2 + 1) (.int .u64 (u' : Int)) = ptvMkP (qs ++ [(a, u')]) := by
  rw [ptv_appendMkP, ptv_appendMkP, ptv_one, ptv_one, List.set_append_right _ _ (by rw [ptv_lengthMkP]; omega), ptv_lengthMkP]
  simp [show qs.length * 2 + 1 - qs.length * 2 = 1 by omega]
theorem with_same {g : Nat → Bool} {J base : Nat} {qs : List PtMkP} {u u' G c : Nat} {w w1 : World} {b : Option Nat} (h : Parts (qs ++ [(J / 64, u')]) (J + 1) g) (hown : w1.ownsRow base 73 2 (.slice (some ⟨G, 0, none⟩) (qs.length + 1) c) (qs.length + 1) (ptvMkP (qs ++ [(J / 64, u)]))) (hg : w.grownBy w1 b)
    (v : Value) (hv : v.ownBlock = b) (hG : some G = b ∨ w.heap.size ≤ G) {z : Int} (hz : z = (u' : Int)) : WithMade g J base v w (.returned (.slice (some ⟨G, 0, none⟩) (qs.length + 1) c)) (w1.setCell ⟨G, qs.length * 2 + 1, none⟩ (.int .u64 z)) := by
  subst hv
  subst hz
  refine ⟨_, qs ++ [(J / 64, u')], rfl, ?_, h, grown_setS hg hG, ?_⟩
  · have := own_setS hown (qs.length * 2 + 1) (.int .u64 (u' : Int))
    rw [ptv_set] at this
    rw [List.length_append]
    exact this
  · rcases hG with hG | hG
    · exact .inl hG
    · exact .inr ⟨G, rfl, hG⟩
theorem grown_drewMk1 (w : World) (b : Option Nat) : w.grownBy w.drew b := ⟨rfl, rfl, rfl, Nat.le_refl _, fun _ _ _ => rfl⟩
theorem grown_drew2 {w w1 : World} {b : Option Nat} (h : w.grownBy w1 b) : w.grownBy w1.drew b := ⟨h.os, h.tape, h.output, h.size, h.block⟩

set_option maxRecDepth 100000 in
set_option maxHeartbeats 1600000 in
theorem with_last (qs : List PtMkP) (a u : Nat) (v : Value) (J base : Nat) (g : Nat → Bool) (w : World) (hJ : J ≤ 1048576) (hown : w.ownsRow base 73 2 v (qs.length + 1) (ptvMkP (qs ++ [(a, u)]))) (hp : Parts (qs ++ [(a, u)]) J g) (hg : g J = true) (ha : a = J / 64) :
    Calls Try.prog 36 #[v, .int .i64 (J : Int)] w (WithMade g J base v w) := by
  have hal : a * 64 < J := hp.lo (a, u) (by simp)
  have hu : u < 18446744073709551616 := hp.wd (a, u) (by simp)
  have hlen := hp.len
  simp at hlen
  obtain ⟨G, c, rfl, hfz, hG, hGs⟩ := own_posS hown (by omega)
  obtain ⟨A1, c1, e1, _, _, hr, _⟩ := own_sliceS hown
  cases e1
  obtain ⟨g1, o1, e1, hc1, hc2⟩ := hr.part (k := qs.length) (by simp)
  cases e1
  simp only [List.getElem_concat_length, Nat.zero_add] at hc1 hc2
  subst ha
  have HQ := Lib.hid (fun z hz => with_same (z := z) (Parts.same hp hg) (w1 := w.drew) (World.ownsRow.drew hown) (grown_drewMk1 w (some G)) (.slice (some ⟨G, 0, none⟩) (qs.length + 1) c) rfl (.inl rfl) hz)
  have hf2 := hfz (qs.length * 2 + 1)
  clear hown hp hg hr hfz
  generalize qs.length = m at *
  have zq : (J : Int) / 64 = ((J / 64 : Nat) : Int) := by omega
  have zr : (J : Int) % 64 = ((J % 64 : Nat) : Int) := by omega
  have h64 : J % 64 < 64 := Nat.mod_lt _ (by decide)
  have HE := Lib.hid (or_bitVc2 u (J % 64) hu h64)
  generalize J / 64 = q at *
  generalize J % 64 = r at *
  have e1 : ((m + 1 : Nat) : Int) - 1 = (m : Int) := by omega
  go_enter Try.func36, Try.ntmps36
  go_wp2_with fail
  go_region
  go_wp2_with fail
  go_ret
  exact HQ.out _ HE.out

/-- Behind the append. -/
theorem with_app {g : Nat → Bool} {J base n : Nat} {ps : List PtMkP} {v v' : Value} {w w1 : World} {o : Obj} (hn : ps.length = n) (hp : Parts (ps ++ [(J / 64, 2 ^ (J % 64))]) (J + 1) g) (hown : w1.ownsRow base 73 2 v' (n + 1) (ptvMkP ps ++ [.int .i64 ((J / 64 : Nat) : Int), .int .u64 0]))
    (hgr : (w.alloc o).grownBy w1 v.ownBlock) (hloc : v'.ownBlock = v.ownBlock ∨ v'.ownBlock = some (w.heap.size + 1)) :
    ∃ G c, v' = .slice (some ⟨G, 0, none⟩) (n + 1) c ∧ w1.cell? ⟨G, n * 2 + 1, none⟩ = some (.int .u64 0) ∧ w1.frozen? ⟨G, n * 2 + 1, none⟩ = false ∧
      ∀ z : Int, z = ((2 ^ (J % 64) : Nat) : Int) → WithMade g J base v w (.returned (.slice (some ⟨G, 0, none⟩) (n + 1) c)) (w1.drew.setCell ⟨G, n * 2 + 1, none⟩ (.int .u64 z)) := by
  subst hn
  have hown' : w1.ownsRow base 73 2 v' (ps.length + 1) (ptvMkP (ps ++ [(J / 64, 0)])) := by rw [ptv_appendMkP, ptv_one]; exact hown
  obtain ⟨G, c, rfl, hfz, hG, hGs⟩ := own_posS hown' (by omega)
  obtain ⟨A1, c1, e1, _, _, hr, _⟩ := own_sliceS hown'
  cases e1
  obtain ⟨g1, o1, e1, -, hc2⟩ := hr.part (k := ps.length) (by simp)
  cases e1
  simp only [List.getElem_concat_length, Nat.zero_add] at hc2
  refine ⟨G, c, rfl, hc2, hfz _, fun z hz => with_same (z := z) hp (World.ownsRow.drew hown') (grown_drew2 ((World.grownBy_alloc w o _).trans hgr)) v rfl ?_ hz⟩
  rcases hloc with h | h
  · exact .inl h
  · right
    injection h with h
    have h' : G = w.heap.size + 1 := h
    omega

set_option maxRecDepth 100000 in
set_option maxHeartbeats 1600000 in
theorem with_first (v : Value) (J base : Nat) (g : Nat → Bool) (w : World) (hJ : J ≤ 1048576) (hb : base ≤ w.heap.size) (hown : w.ownsRow base 73 2 v 0 (ptvMkP [])) (hp : Parts [] J g) (hg : g J = true) :
    Calls Try.prog 36 #[v, .int .i64 (J : Int)] w (WithMade g J base v w) := by
  obtain ⟨i0, hi, hz0, hz1, hz2⟩ := info_parts Try.infoPartMk1
  have HP := Lib.hid (Parts.new hp (fun qs p e => by simp at e) hg)
  clear hp hg
  have zq : (J : Int) / 64 = ((J / 64 : Nat) : Int) := by omega
  have zr : (J : Int) % 64 = ((J % 64 : Nat) : Int) := by omega
  have h64 : J % 64 < 64 := Nat.mod_lt _ (by decide)
  have HE := Lib.hid ((or_bitVc2 0 (J % 64) (by decide) h64).trans (by rw [Nat.zero_or]))
  have HV := Lib.hid hown
  obtain ⟨A1, c1, e1, _, _, _, _⟩ := own_sliceS hown
  subst e1
  have HW := Lib.hid (fun (v' : Value) (w1 : World) (o : Obj) h1 h2 h3 => with_app (v := .slice A1 0 c1) (v' := v') (w1 := w1) (w := w) (o := o) (base := base) (n := 0) (ps := []) rfl HP.out h1 h2 h3)
  generalize J / 64 = q at *
  generalize J % 64 = r at *
  clear HP hown
  go_enter Try.func36, Try.ntmps36
  go_wp2_with (at_builtin; refine wpList_append_own_at _ rfl (.tmp 23) (.tmp 26) 61 rfl base 73 i0 (.agg #[.int .i64 0, .int .u64 0]) 2 16 Try.underlying61 hi hz0 hz1 hz2 rfl (by decide) _ _ _ rfl (HV.out.alloc _) ⟨w.heap.size, 0, none⟩ 1 1 [.int .i64 (q : Int), .int .u64 0] rfl rfl (pair_new _ _ _ _) (one_part _ _) (by unfold maxLen; omega) (by omega) (by simp; omega) ?_)
  intro v' w1 hown' hgrow _ hloc
  obtain ⟨G, c, rfl, hc2, hf2, HZ⟩ := HW.out _ _ _ hown' hgrow hloc
  have HQ := Lib.hid HZ
  clear HZ HW hown' hgrow hloc HV
  go_wp2_with fail
  go_region
  go_wp2_with fail
  go_ret
  exact HQ.out _ HE.out

set_option maxRecDepth 100000 in
set_option maxHeartbeats 1600000 in
theorem with_more (qs : List PtMkP) (a u : Nat) (v : Value) (J base : Nat) (g : Nat → Bool) (w : World) (hJ : J ≤ 1048576) (hb : base ≤ w.heap.size) (hown : w.ownsRow base 73 2 v (qs.length + 1) (ptvMkP (qs ++ [(a, u)]))) (hp : Parts (qs ++ [(a, u)]) J g) (hg : g J = true) (ha : a ≠ J / 64) :
    Calls Try.prog 36 #[v, .int .i64 (J : Int)] w (WithMade g J base v w) := by
  obtain ⟨i0, hi, hz0, hz1, hz2⟩ := info_parts Try.infoPartMk1
  have hal : a * 64 < J := hp.lo (a, u) (by simp)
  have hlen := hp.len
  simp at hlen
  have HP := Lib.hid (Parts.new hp (fun qs' p e => by
    have := List.append_inj_right' e rfl
    simp at this
    subst this
    exact ha) hg)
  clear hp hg
  have zq : (J : Int) / 64 = ((J / 64 : Nat) : Int) := by omega
  have zr : (J : Int) % 64 = ((J % 64 : Nat) : Int) := by omega
  have h64 : J % 64 < 64 := Nat.mod_lt _ (by decide)
  have HE := Lib.hid ((or_bitVc2 0 (J % 64) (by decide) h64).trans (by rw [Nat.zero_or]))
  have HV := Lib.hid hown
  obtain ⟨A1, c1, e1, _, _, hr, _⟩ := own_sliceS hown
  subst e1
  obtain ⟨g1, o1, e1, hc1, -⟩ := hr.part (k := qs.length) (by simp)
  subst e1
  simp only [List.getElem_concat_length] at hc1
  have HW := Lib.hid (fun (v' : Value) (w1 : World) (o : Obj) h1 h2 h3 => with_app (v := .slice (some ⟨g1, o1, none⟩) (qs.length + 1) c1) (v' := v') (w1 := w1) (w := w) (o := o) (base := base) (n := qs.length + 1) (ps := qs ++ [(a, u)]) (by simp) HP.out h1 h2 h3)
  generalize J / 64 = q at *
  generalize J % 64 = r at *
  generalize qs.length = m at *
  have hne : ((a : Int) != (q : Int)) = true := by rw [bne_iff_ne]; omega
  have hm0 : ((m : Int) + 1 == 0) = false := by rw [beq_eq_false_iff_ne]; omega
  clear HP hown hr
  go_enter Try.func36, Try.ntmps36
  go_wp2_with (at_builtin; refine wpList_append_own_at _ rfl (.tmp 23) (.tmp 26) 61 rfl base 73 i0 (.agg #[.int .i64 0, .int .u64 0]) 2 16 Try.underlying61 hi hz0 hz1 hz2 rfl (by decide) _ _ _ rfl (HV.out.alloc _) ⟨w.heap.size, 0, none⟩ 1 1 [.int .i64 (q : Int), .int .u64 0] rfl rfl (pair_new _ _ _ _) (one_part _ _) (by unfold maxLen; omega) (by omega) (by simp; omega) ?_)
  intro v' w1 hown' hgrow _ hloc
  obtain ⟨G, c, rfl, hc2, hf2, HZ⟩ := HW.out _ _ _ hown' hgrow hloc
  have HQ := Lib.hid HZ
  clear HZ HW hown' hgrow hloc HV
  go_wp2_with fail
  go_region
  go_wp2_with fail
  go_ret
  exact HQ.out _ HE.out

theorem with_any (ps : List PtMkP) (v : Value) (n J base : Nat) (g : Nat → Bool) (w : World) (hn : ps.length = n) (hJ : J ≤ 1048576) (hb : base ≤ w.heap.size) (hown : w.ownsRow base 73 2 v n (ptvMkP ps)) (hp : Parts ps J g) (hg : g J = true) :
    Calls Try.prog 36 #[v, .int .i64 (J : Int)] w (WithMade g J base v w) := by
  subst hn
  rcases list_end ps with rfl | ⟨qs, ⟨a, u⟩, rfl⟩
  · exact with_first v J base g w hJ hb hown hp hg
  · rw [List.length_append] at hown
    by_cases ha : a = J / 64
    · exact with_last qs a u v J base g w hJ hown hp hg ha
    · exact with_more qs a u v J base g w hJ hb hown hp hg ha

end Go.Proofs.Ytncbhnmhaoblaaa
