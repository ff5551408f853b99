/-
  Words and contracts that the proof leans on.
-/
import Derived.Test.YthpinbmimgojnaaM18
import Derived.Test.YthpinbmimgojnaaM2
import Derived.Test.YthpinbmimgojnaaM8
import Derived.Laws.CopyOwn
import Derived.Deep.OwnRows
import Derived.Deep.RegionLaw
import Derived.Deep.DeepCutAuto
import Derived.BigQuiet
namespace Go.Proofs.Ythpinbmimgojnaa
open Go.RowKit

theorem Try.infoIntsR : (Try.prog.info? 3).map (·.size) = some 1 := by kernel_rfl

/-- k numbers have been laid, N - k are still zero. -/
def rpL (x : Value) (N k : Nat) : List Value := List.replicate k x ++ List.replicate (N - k) (.int .i64 0)
theorem rpL_length {x : Value} {N k : Nat} (h : k ≤ N) : (rpL x N k).length = N := by unfold rpL; simp; omega
theorem rp_splice {x : Value} {N k d : Nat} : splice (rpL x N k) k (List.replicate d x) = rpL x N (k + d) := by
  unfold splice rpL
  rw [List.take_append, List.drop_append]
  simp only [List.length_replicate, List.take_replicate, List.drop_replicate]
  rw [show min k k = k by omega, show k - k = 0 by omega, show k - (k + d) = 0 by omega, show k + d - k = d by omega, show N - k - d = N - (k + d) by omega]
  simp only [List.replicate_zero, Nat.zero_min, List.append_nil, List.nil_append]
  rw [← List.append_assoc, List.replicate_append_replicate]
def RpRel (x : Value) (N G : Nat) (w : World) (v : Value) (wr : World) : Prop :=
  ∃ k : Nat, 1 ≤ k ∧ k ≤ N ∧ v = .int .i64 (k : Int) ∧ Hid (wr.heap[G]? = some (.cells (rpL x N k).toArray 3 (0, 0))) ∧ Below G w wr
theorem rp_cell {x : Value} {N G k : Nat} {w : World} (h : w.heap[G]? = some (.cells (rpL x N k).toArray 3 (0, 0))) (j : Nat) (hj : j < k) : w.cell? ⟨G, j, none⟩ = some x := by
  have e : (rpL x N k)[j]? = some x := by
    unfold rpL
    rw [List.getElem?_append_left (by simp; exact hj), List.getElem?_replicate, if_pos hj]
  simp [World.cell?, h, e]
/-- What Repeat leaves. -/
def RpMade (x : Value) (N : Nat) (w : World) (e : Ending) (w' : World) : Prop :=
  e = .returned (.slice (some ⟨w.heap.size, 0, none⟩) N N) ∧ w'.rowIs w.heap.size 3 N (fun _ => x) ∧ Below w.heap.size w w'
theorem rp_done {x : Value} {N : Nat} {w wr : World} (h : wr.heap[w.heap.size]? = some (.cells (rpL x N N).toArray 3 (0, 0))) (hb : Below w.heap.size w wr) : RpMade x N w (.returned (.slice (some ⟨w.heap.size, 0, none⟩) N N)) wr := by
  refine ⟨rfl, ⟨_, h, by simp [rpL_length (Nat.le_refl N)], fun i hi => ?_⟩, hb⟩
  rw [List.getElem?_toArray]
  unfold rpL
  rw [List.getElem?_append_left (by simp; exact hi), List.getElem?_replicate, if_pos hi]

set_option maxRecDepth 100000 in
set_option maxHeartbeats 1600000 in
theorem repeat_any (g c N : Nat) (x : Int) (w : World) (hx : w.cell? ⟨g, 0, none⟩ = some (.int .i64 x)) (h1 : 1 ≤ N) (hN : N ≤ 4194304) :
    Calls Try.prog 28 #[.slice (some ⟨g, 0, none⟩) 1 c, .int .i64 (N : Int)] w (RpMade (.int .i64 x) N w) := by
  obtain ⟨i0, hi, hz0, hz1, hz2⟩ := info_parts Try.infoInt
  have C : Hid (∀ w, Calls Try.prog 32 #[.int .u64 1, .int .u64 (N : Int)] w fun e w' => e = .returned (.tuple #[.int .u64 0, .int .u64 (N : Int)]) ∧ w' = w) := fun w => by
    have h := Any.bits_Mul Try.mulL 1 N (by decide) (by omega) w
    rw [Nat.one_mul, Nat.mod_eq_of_lt (by omega), Nat.div_eq_of_lt (by omega)] at h
    exact h
  go_enter Try.func28, Try.ntmps28
  go_wp2_with fail
  refine (C.out _).mono ?_
  rintro e w1 ⟨rfl, rfl⟩
  clear C
  go_wp2_with (at_make; refine wpList_make_row _ rfl _ _ 25 rfl 3 i0 (.int .i64 0) Try.underlying25 hi hz0 hz1 rfl .i64 .i64 N rfl rfl (by rw [hz2]; omega) (by omega) ?_)
  have hb1 : Below w1.heap.size w1 (w1.alloc (.cells (madeCells #[.int .i64 0] N) 3)) := (Below.refl _ _).alloc (Nat.le_refl _) _
  have HH : Hid ((w1.alloc (.cells (madeCells #[.int .i64 0] N) 3)).heap[w1.heap.size]? = some (.cells (rpL (.int .i64 x) N 0).toArray 3 (0, 0))) := by
    show _ = _
    unfold rpL
    rw [List.replicate_zero, List.nil_append, Nat.sub_zero, ← toList_madeCells_one, Array.toArray_toList]
    show (w1.heap.push _)[w1.heap.size]? = _
    simp
  have hx1 : (w1.alloc (.cells (madeCells #[.int .i64 0] N) 3)).cell? ⟨g, 0, none⟩ = some (.int .i64 x) := (hb1.cell (p := ⟨g, 0, none⟩) (World.block_lt_of_cell? _ _ hx)).trans hx
  have HL := Lib.hid (rpL_length (x := .int .i64 x) (Nat.zero_le N))
  have HS : Hid (splice (rpL (.int .i64 x) N 0) 0 [.int .i64 x] = rpL (.int .i64 x) N 1) := rp_splice (d := 1)
  generalize w1.alloc (.cells (madeCells #[.int .i64 0] N) 3) = w0 at *
  have HX : Hid (∀ j v, [Value.int .i64 x][j]? = some v → w0.cell? ((⟨g, 0, none⟩ : Addr).add j) = some v) := fun j v hv => by
    obtain rfl : j = 0 := by
      have := (List.getElem?_eq_some_iff.1 hv).1
      simpa using this
    rw [Addr.add_lit]
    simp at hv
    rw [← hv]
    exact hx1
  obtain ⟨cur, hcur⟩ : ∃ cur : List Value, rpL (.int .i64 x) N 0 = cur := ⟨_, rfl⟩
  rw [hcur] at HH HL HS
  have HC := run_copy_row (P := Try.prog) w0 25 25 3 3 w1.heap.size 0 N N ⟨g, 0, none⟩ 1 c cur.toArray 3 [.int .i64 x] Try.underlying25 Try.infoIntsR HH.out (by show 1 = min 1 N; omega) HX.out (by rw [List.size_toArray, HL.out]; simp; omega) (one_int _ _)
  obtain ⟨w2, HG, hb2, hrun⟩ : ∃ w2, Hid (w2.heap[w1.heap.size]? = some (.cells (rpL (.int .i64 x) N 1).toArray 3 (0, 0))) ∧ Below w1.heap.size w1 w2 ∧ (Builtin.copy_ #[25, 25] 3 #[.slice (some ⟨w1.heap.size, 0, none⟩) N N, .slice (some ⟨g, 0, none⟩) 1 c]).run Try.prog w0 = .ok (.int .i64 1) w2 := by
    refine ⟨_, ?_, below_setRow hb1 (Nat.le_refl _) _, HC⟩
    show _ = _
    rw [← HS.out]
    exact setRow_heap w0 _ _ _ _ _ HH.out
  clear hcur hx HC HH hx1 hb1 HL HS HX
  go_wp2_with fail
  erw [hrun]
  clear hrun
  go_wp2_with fail
  go_loopw [8] (fun v wr => RpRel (.int .i64 x) N w1.heap.size w1 v wr) (fun v _ => N - (intOf v).toNat)
  case atStart => exact ⟨1, Nat.le_refl _, h1, rfl, HG, hb2⟩
  case round =>
    clear HG hb2
    obtain ⟨k, hk1, hk, rfl, HG, hb⟩ := hrel
    by_cases hlt : k < N
    · obtain ⟨D, hD⟩ : ∃ D, min k (N - k) = D := ⟨_, rfl⟩
      have hDD := Lib.hid hD
      have HC : Hid (∀ j, j < k → wr.cell? ⟨w1.heap.size, j, none⟩ = some (.int .i64 x)) := fun j hj => rp_cell HG.out j hj
      have HL := Lib.hid (rpL_length (x := .int .i64 x) hk)
      have HS := Lib.hid (rp_splice (x := .int .i64 x) (N := N) (k := k) (d := D))
      obtain ⟨cur, hcur⟩ : ∃ cur : List Value, rpL (.int .i64 x) N k = cur := ⟨_, rfl⟩
      rw [hcur] at HG HL HS
      obtain ⟨cs, hcs⟩ : ∃ cs : List Value, List.replicate D (.int .i64 x) = cs := ⟨_, rfl⟩
      have Q1 : Hid (cs.length = D) := by show _ = _; rw [← hcs]; simp
      have Q2 : Hid (∀ v ∈ cs, v.oneCell' = true) := by
        show ∀ v ∈ cs, _
        rw [← hcs]
        intro v hv
        rw [(List.mem_replicate.1 hv).2]
        rfl
      have Q3 : Hid (∀ j v, cs[j]? = some v → wr.drew.cell? ((⟨w1.heap.size, 0, none⟩ : Addr).add j) = some v) := fun j v hv => by
        rw [← hcs, List.getElem?_replicate] at hv
        split at hv
        · injection hv with hv
          subst hv
          rw [Addr.add_lit, Nat.zero_add]
          exact HC.out j (by omega)
        · cases hv
      rw [hcs] at HS
      have hDk : D ≤ k := by omega
      have hDN : k + D ≤ N := by omega
      have hD1 : 1 ≤ D := by omega
      have hne : (N = k) = False := by simp; omega
      have hne' : (k = N) = False := by simp; omega
      have Q4 : Hid (cs.length = Nat.min k (N - k)) := by show _ = min k (N - k); rw [Q1.out, ← hDD.out]
      have Q5 : Hid (k + cs.length ≤ cur.length) := by show _ ≤ _; rw [Q1.out, HL.out]; exact hDN
      have HGd : Hid (wr.drew.heap[w1.heap.size]? = some (.cells cur.toArray 3 (0, 0))) := HG
      have hbd : Below w1.heap.size w1 wr.drew := hb.drew
      have HR : Hid (∀ wz : World, Hid (wz.heap[w1.heap.size]? = some (.cells (splice cur k cs).toArray 3 (0, 0))) → Below w1.heap.size w1 wz → RpRel (.int .i64 x) N w1.heap.size w1 (.int .i64 ((k + D : Nat) : Int)) wz) := fun wz q1 q2 =>
        ⟨k + D, by omega, hDN, rfl, by rw [← HS.out]; exact q1, q2⟩
      clear hcur hcs hD hb HG HC HS
      go_wp2_with fail
      go_region_law (refine step_copy_splice rfl (.tmp 41) (.tmp 44) 25 25 rfl 3 Try.underlying25 Try.infoIntsR (some ⟨w1.heap.size, k, none⟩) (some ⟨w1.heap.size, 0, none⟩) (N - k) (N - k) k N (by simp [Act.eval, Act.put]) (by simp [Act.eval, Act.put]) w1.heap.size k cur 3 HGd.out cs Q4.out (fun _ => ⟨rfl, _, rfl, Q3.out⟩) Q5.out Q2.out w1.heap.size w1 hbd (Nat.le_refl _) ?_; intro w4 HG4 hb4)
      have R := Lib.hid (HR.out _ HG4 hb4)
      have W := Lib.hid (show IntKind.i64.wrap ((k : Int) + (cs.length : Int)) = ((k + D : Nat) : Int) from by rw [Q1.out, IntWalk.i64_in _ (by omega)]; simp)
      clear HR HG4 hb4 HGd hbd Q2 Q3 Q4 Q5
      rw [W.out]
      simp only [Act.put]
      go_roundw
      case rel => first | exact R.out | ((repeat apply Exists.intro); exact ⟨R.out, rfl⟩)
      case measure => simp [intOf]; omega
    · obtain rfl : k = N := by omega
      have HF := Lib.hid (rp_done HG.out hb)
      clear HG hb
      go_wp2_with fail
      go_ret
      exact HF.out

end Go.Proofs.Ythpinbmimgojnaa
