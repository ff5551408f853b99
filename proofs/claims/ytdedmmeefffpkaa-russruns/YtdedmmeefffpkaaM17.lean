/-
  Words and contracts that the proof leans on.
-/
import Derived.Test.YtdedmmeefffpkaaM15
import Derived.Test.YtdedmmeefffpkaaM16
import Derived.Deep.DeepCutAuto
import Derived.Laws.BitsAllLaws
namespace Go.Proofs.Ytdedmmeefffpkaa
open Go.RowKit

theorem row_takeB {w : World} {A : Option Addr} {d : List UInt8} (h : Row w A (bv d)) (hp : 0 < (bv d).length) : ∃ ad, A = some ad ∧ ∀ j v, (bv d)[j]? = some v → w.cell? (ad.add j) = some v := by
  obtain ⟨g, o, rfl, hc⟩ := h (by intro e; rw [e] at hp; simp at hp)
  exact ⟨_, rfl, fun j v hv => by rw [Addr.add_lit]; exact hc j v hv⟩
theorem blk_made (w : World) (o : Obj) : (w.alloc o).heap[w.heap.size]? = some o := by
  show (w.heap.push o)[w.heap.size]? = _
  simp

/-- The head of a round of Put. -/
def PtRel (d : List UInt8) (s : Nat) (key : Int) (B g n c m : Nat) (w : World) (i : Value) (wr : World) : Prop :=
  ∃ k : Nat, k ≤ m ∧ i = .int .i64 (k : Int) ∧ wr.ownsRow B 5 1 (.slice (some ⟨g, 0, none⟩) n c) n (bv (putN d s key k)) ∧ Below w.heap.size w wr
theorem pt_step {d : List UInt8} {s : Nat} {key : Int} {B g n c m k : Nat} {w wr : World} (hB : w.heap.size ≤ g) (hk : k < m) (h : wr.ownsRow B 5 1 (.slice (some ⟨g, 0, none⟩) n c) n (bv (putN d s key k))) (hb : Below w.heap.size w wr) {z : Int} (hz : z = ((bitB key k).toNat : Int)) :
    PtRel d s key B g n c m w (.int .i64 ((k + 1 : Nat) : Int)) (wr.setCell ⟨g, s + k, none⟩ (.int .u8 z)) := by
  subst hz
  refine ⟨k + 1, hk, rfl, ?_, hb.setCell hB _⟩
  have := own_setS h (s + k) (.int .u8 ((bitB key k).toNat : Int))
  rw [bv_set] at this
  exact this
theorem and_bit (key : Int) (k : Nat) : IntKind.u8.wrap (bits .and .i64 (key / 2 ^ k) 1) = ((bitB key k).toNat : Int) := by
  rw [bitB_nat, and_one_i64, IntKind.wrap_u8']
  omega

set_option maxRecDepth 100000 in
set_option maxHeartbeats 1600000 in
theorem pput_any (A : Option Addr) (n c : Nat) (d : List UInt8) (at' t key : Int) (w : World) (hn : d.length = n) (hb : n ≤ 1048576) (h1 : I64 at') (h2 : I64 t) (hr : Row w A (bv d)) :
    Calls Try.prog 40 #[.slice A n c, .int .i64 at', .int .i64 t, .int .i64 key] w (MadeB (putL d at' t key) w) := by
  obtain ⟨i0, hi, hz0, hz1, hz2⟩ := info_parts Try.infoU8
  have hp := fun w' : World => part_any (some ⟨w.heap.size, 0, none⟩) n n at' t w' hb (Nat.le_refl _) h1 h2
  have HM := Lib.hid (fun k => prt_room (n := n) (at' := at') (t := t) (k := k))
  have hm3 := prt_le n at' t
  have HE : Hid (putL d at' t key = putN d at'.toNat key (prt n at' t)) := by show _ = _; unfold putL; rw [hn]
  rw [HE.out]
  unfold PartOf at hp
  clear HE
  generalize prt n at' t = m at *
  have HP := Lib.hid hp
  clear hp
  have HN := Lib.hid hn
  clear hn
  go_enter Try.func40, Try.ntmps40
  go_upto_region 2 with (at_make; refine wpList_make_row _ rfl _ _ 43 rfl 5 i0 (.int .u8 0) Try.underlying43 hi hz0 hz1 rfl .i64 .i64 n rfl rfl (by rw [hz2]; omega) (by omega) ?_)
  have hb1 : Below w.heap.size w (w.alloc (.cells (madeCells #[.int .u8 0] n) 5)) := (Below.refl _ _).alloc (Nat.le_refl _) _
  have HH : Hid ((w.alloc (.cells (madeCells #[.int .u8 0] n) 5)).heap[w.heap.size]? = some (.cells (List.replicate n (.int .u8 0)).toArray 5 (0, 0))) := by
    show _ = _
    rw [← toList_madeCells_one, Array.toArray_toList]
    exact blk_made w _
  have r1 := hr.below hb1
  generalize w.alloc (.cells (madeCells #[.int .u8 0] n) 5) = w0 at *
  obtain ⟨cur, hcur⟩ : ∃ cur : List Value, List.replicate n (.int .u8 0) = cur := ⟨_, rfl⟩
  obtain ⟨cs, hcs⟩ : ∃ cs : List Value, bv d = cs := ⟨_, rfl⟩
  have HC := Lib.hid hcur
  have HS := Lib.hid hcs
  rw [hcur] at HH
  have G0 : Hid (cs.length = n) := by show _ = _; rw [← hcs, bv_length, HN.out]
  have G1 : Hid (cs.length = Nat.min n n) := by show _ = _; rw [G0.out]; exact (Nat.min_self n).symm
  have G2 : Hid (0 < cs.length → ∃ ad, A = some ad ∧ ∀ j v, cs[j]? = some v → w0.cell? (ad.add j) = some v) := by show _ → _; rw [← hcs]; exact row_takeB r1
  have G3 : Hid (0 + cs.length ≤ cur.length) := by show _ ≤ _; rw [G0.out, ← hcur, List.length_replicate]; omega
  have G4 : Hid (∀ v ∈ cs, v.oneCell' = true) := by show ∀ v ∈ cs, _; rw [← hcs]; exact bv_one _
  clear hcur hcs
  go_wp2_with (with_reducible refine wpList_copy_splice rfl (.tmp 15) (.tmp 16) 43 43 rfl 5 Try.underlying43 Try.infoU8s (some ⟨w.heap.size, 0, none⟩) A n n n c rfl rfl w.heap.size 0 cur 5 HH.out cs G1.out (fun hp => ⟨rfl, G2.out hp⟩) G3.out G4.out w.heap.size w hb1 (Nat.le_refl _) ?_)
  intro w2 HG hb2
  rw [splice_all _ _ (by rw [← HC.out, List.length_replicate, G0.out]), ← HS.out] at HG
  have HO := Lib.hid (own_of_heap (w := w2) (B := w.heap.size) (n := n) (Nat.le_refl _) (by unfold maxLen; omega) (by rw [bv_length, HN.out]) HG.out)
  clear HG HH r1 hb1 HS HC G0 G1 G2 G3 G4 hr
  go_wp2_with fail
  refine (HP.out _).mono ?_
  rintro e w' ⟨A', c', rfl, hc', hA, rfl⟩
  have HA := Lib.hid hA
  clear hA HP
  go_wp2_with fail
  go_loopw [24] (fun i wr => PtRel d at'.toNat key w.heap.size w.heap.size n n m w i wr) (fun i _ => m - (intOf i).toNat)
  case atStart => exact ⟨0, Nat.zero_le _, rfl, HO.out, hb2⟩
  case round =>
    clear HO hb2
    obtain ⟨k, hk, rfl, hwn, hbr⟩ := hrel
    by_cases hlt : k < m
    · have e := HA.out (by omega)
      subst e
      have hin := HM.out k hlt
      obtain ⟨_, _, e, hfz, _, hlw⟩ := own_posS hwn (by omega)
      cases e
      have f1 := hfz (at'.toNat + k)
      have f2 := own_cellB hwn (List.getElem?_eq_getElem (show at'.toNat + k < (putN d at'.toNat key k).length by rw [putN_length, HN.out]; exact hin))
      generalize (putN d at'.toNat key k)[at'.toNat + k]'(by rw [putN_length, HN.out]; exact hin) = b at *
      have R := Lib.hid (fun z => pt_step (z := z) (m := m) (Nat.le_refl _) hlt hwn hbr)
      have HB := Lib.hid (and_bit key k)
      clear hwn hbr hfz HM HA
      generalize at'.toNat = s at *
      go_wp2_with fail
      go_roundw
      case rel => exact R.out _ HB.out
      case measure => simp [intOf]; omega
    · obtain rfl : k = m := by omega
      have HF : Hid (MadeB (putN d at'.toNat key k) w (.returned (.slice (some ⟨w.heap.size, 0, none⟩) n n)) wr) := by
        refine ⟨_, rfl, ?_, hbr⟩
        unfold OwnB
        rw [putN_length, HN.out]
        exact hwn
      clear hwn hbr HA HM
      go_wp2_with fail
      go_ret
      exact HF.out

end Go.Proofs.Ytdedmmeefffpkaa
