/-
  Package vec over the landed code: Fit, Not, Ones.
-/
import Derived.Test.YthmfolekohomiaaVp4
import Derived.Deep.DeepCutAuto
namespace Go.Proofs.Ythmfolekohomiaa
open Go.RowKit

theorem Try.infoU64s : (Try.prog.info? 28).map (·.size) = some 1 := by kernel_rfl

/-- A block that reads words, as a row that is told word by word. -/
theorem row_of_splice {w : World} {T W : Nat} {x : List Nat} (h : w.heap[T]? = some (.cells (splice (List.replicate W (.int .u64 0)) 0 (uv (x.take W))).toArray 28 (0, 0))) : w.rowIs T 28 W (fun k => .int .u64 (wd x k : Nat)) := by
  have hl : (uv (x.take W)).length ≤ W := by rw [uv_length, List.length_take]; omega
  refine ⟨_, h, ?_, fun i hi => ?_⟩
  · rw [List.size_toArray, length_splice _ _ _ (by simp; omega), List.length_replicate]
  · rw [List.getElem?_toArray]
    unfold splice
    rw [List.take_zero, List.nil_append, Nat.zero_add]
    show _ = some (Value.int .u64 (wd x i : Nat))
    by_cases hx : i < x.length
    · have hu : i < (uv (x.take W)).length := by rw [uv_length, List.length_take]; omega
      rw [List.getElem?_append_left hu, ← wd_in hx]
      unfold uv
      rw [List.getElem?_map, List.getElem?_take, if_pos hi, List.getElem?_eq_getElem hx]
      rfl
    · rw [List.getElem?_append_right (by rw [uv_length, List.length_take]; omega), ← wd_out (x := x) (k := i) (by omega), List.getElem?_drop, List.getElem?_replicate, if_pos (by rw [uv_length, List.length_take]; omega)]
      rfl

theorem Row.ofTake {w : World} {A : Option Addr} {x : List Nat} {W : Nat} (h : Row w A (uv x)) (hp : 0 < (uv (x.take W)).length) : ∃ ad, A = some ad ∧ ∀ j v, (uv (x.take W))[j]? = some v → w.cell? (ad.add j) = some v := by
  have e : uv (x.take W) = (uv x).take W := by unfold uv; rw [List.map_take]
  rw [e] at hp ⊢
  obtain ⟨g, o, rfl, hc⟩ := (h.take W) (by intro e; rw [e] at hp; simp at hp)
  exact ⟨_, rfl, fun j v hv => by rw [Addr.add_lit]; exact hc j v hv⟩

theorem blk_new (w : World) (o : Obj) : (w.alloc o).heap[w.heap.size]? = some o := by
  show (w.heap.push o)[w.heap.size]? = _
  simp

set_option maxRecDepth 100000 in
set_option maxHeartbeats 1600000 in
theorem pfit : Op1OK 24 bt := by
  intro A m c x n w hm hb hc hcm hI hr hx
  obtain ⟨i0, hi, hz0, hz1, hz2⟩ := info_parts Try.infoU64
  have HWS := Lib.hid (pwords n w)
  have hWl := wds_le n
  have HM := Lib.hid hm
  obtain ⟨W, hW⟩ : ∃ W, wds n = W := ⟨_, rfl⟩
  have HW := Lib.hid hW
  rw [hW] at hWl HWS ⊢
  clear hW hm
  have HF := Lib.hid (fun (T : Nat) (w1 : World) (h1 : w1.rowIs T 28 W (fun k => .int .u64 (keepW (wid n) (wd x) k : Nat))) => made_of (w := w) (wr := w1) (T := T) (W := W) (F := keepW (wid n) (wd x)) (g := fun j => decide (j < wid n) && bt x j) (keepW_lt fun k _ => wd_lt hx k) (fun j hj => keepW_bit (fun j _ => rfl) j (by rw [← HW.out] at hj; exact hj)) h1)
  go_enter Try.func24, Try.ntmps24
  go_wp2_with fail
  refine HWS.out.mono ?_
  rintro e w' ⟨rfl, rfl⟩
  clear HWS
  go_upto_region 2 with (at_make; refine wpList_make_row _ rfl _ _ 26 rfl 28 i0 (.int .u64 0) Try.underlying26 hi hz0 hz1 rfl .i64 .i64 W rfl rfl (by rw [hz2]; omega) (by omega) ?_)
  have hb1 : Below w.heap.size w (w.alloc (.cells (madeCells #[.int .u64 0] W) 28)) := (Below.refl _ _).alloc (Nat.le_refl _) _
  have HH : Hid ((w.alloc (.cells (madeCells #[.int .u64 0] W) 28)).heap[w.heap.size]? = some (.cells (List.replicate W (.int .u64 0)).toArray 28 (0, 0))) := by
    show _ = _
    rw [← toList_madeCells_one, Array.toArray_toList]
    exact blk_new w _
  have r1 := hr.below hb1
  generalize w.alloc (.cells (madeCells #[.int .u64 0] W) 28) = w0 at *
  obtain ⟨cur, hcur⟩ : ∃ cur : List Value, List.replicate W (.int .u64 0) = cur := ⟨_, rfl⟩
  obtain ⟨cs, hcs⟩ : ∃ cs : List Value, uv (x.take W) = cs := ⟨_, rfl⟩
  have HC := Lib.hid hcur
  have HS := Lib.hid hcs
  rw [hcur] at HH
  have G1 : Hid (cs.length = Nat.min m W) := by show _ = _; rw [← hcs, uv_length, List.length_take, HM.out]; exact Nat.min_comm _ _
  have G2 : Hid (0 < cs.length → ∃ ad, A = some ad ∧ ∀ j v, cs[j]? = some v → w0.cell? (ad.add j) = some v) := by show _ → _; rw [← hcs]; exact r1.ofTake
  have G3 : Hid (0 + cs.length ≤ cur.length) := by show _ ≤ _; rw [← hcs, ← hcur, uv_length, List.length_take, List.length_replicate]; omega
  have G4 : Hid (∀ v ∈ cs, v.oneCell' = true) := by show ∀ v ∈ cs, _; rw [← hcs]; exact uv_one _
  clear hcur hcs
  go_wp2_with (with_reducible refine wpList_copy_splice rfl (.tmp 9) (.tmp 10) 26 26 rfl 28 Try.underlying26 Try.infoU64s (some ⟨w.heap.size, 0, none⟩) A W W m c rfl rfl w.heap.size 0 cur 28 HH.out cs G1.out (fun hp => ⟨rfl, G2.out hp⟩) G3.out G4.out w.heap.size w hb1 (Nat.le_refl _) ?_)
  intro w2 HG hb2
  rw [← HS.out, ← HC.out] at HG
  have hrow := row_of_splice HG.out
  clear HG HH r1 hb1 HS HC
  go_wp2_with fail
  refine (pclear n w.heap.size W w.heap.size (wd x) w w2 HW.out hrow (fun k _ => wd_lt hx k) (Nat.le_refl _) hb2).mono ?_
  rintro e w3 ⟨rfl, h3, hb3⟩
  have HQ := Lib.hid (HF.out _ w3 h3 (Nat.le_refl _) (by unfold maxLen; omega) hb3)
  clear h3 hb3 hrow hb2
  go_wp2_with fail
  go_ret
  exact HQ.out

end Go.Proofs.Ythmfolekohomiaa
