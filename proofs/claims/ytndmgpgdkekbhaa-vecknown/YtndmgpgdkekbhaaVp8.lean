/-
  Package vec over the landed code: Set.
-/
import Derived.Test.YtndmgpgdkekbhaaVp7
import Derived.Deep.DeepCutAuto
namespace Go.Proofs.Ytndmgpgdkekbhaa
open Go.RowKit

/-- What Set makes of words. -/
def setW (x : List Nat) (i k : Nat) : Nat := if k = i / 64 then wd x k ||| 2 ^ (i % 64) else wd x k
theorem setW_lt {x : List Nat} (hx : Wd x) (i k : Nat) : setW x i k < 18446744073709551616 := by
  unfold setW
  split
  · exact Nat.or_lt_two_pow (n := 64) (wd_lt hx k) (Nat.pow_lt_pow_right (by decide) (Nat.mod_lt _ (by decide)))
  · exact wd_lt hx k
theorem setW_bit (x : List Nat) (i j : Nat) : (setW x i (j / 64)).testBit (j % 64) = (bt x j || decide ((j : Int) = (i : Int))) := by
  unfold setW
  by_cases e : j / 64 = i / 64
  · rw [if_pos e, Nat.testBit_or, Nat.testBit_two_pow, bt_wd]
    congr 1
    simp only [decide_eq_decide]
    omega
  · rw [if_neg e, bt_wd, decide_eq_false (by omega), Bool.or_false]
theorem set_made {n i : Nat} {x : List Nat} {w wr : World} {T : Nat} (hx : Wd x) (hr : wr.rowIs T 25 n (fun k => .int .u64 (wd x k : Nat))) (hT : w.heap.size ≤ T) (hn : n ≤ 16384) (hb : Below w.heap.size w wr) {z : Int} (hz : z = ((wd x (i / 64) ||| 2 ^ (i % 64) : Nat) : Int)) :
    MadeV n (fun j => bt x j || decide ((j : Int) = (i : Int))) w (.returned (.slice (some ⟨T, 0, none⟩) n n)) (wr.setCell ⟨T, i / 64, none⟩ (.int .u64 z)) :=
  made_of (F := setW x i) (fun k _ => setW_lt hx i k) (fun j _ => setW_bit x i j) ((hr.set (i / 64) _).congr fun k _ => by
    unfold setW
    by_cases e : k = i / 64
    · rw [if_pos e, if_pos e, hz, e]
    · rw [if_neg e, if_neg e]) hT (by unfold maxLen; omega) (hb.setCell hT _)
theorem set_same {n : Nat} {i : Int} {x : List Nat} {w wr : World} {T : Nat} (hx : Wd x) (hi : ¬ (0 ≤ i ∧ i < 64 * (n : Int))) (hr : wr.rowIs T 25 n (fun k => .int .u64 (wd x k : Nat))) (hT : w.heap.size ≤ T) (hn : n ≤ 16384) (hb : Below w.heap.size w wr) :
    MadeV n (fun j => bt x j || decide ((j : Int) = i)) w (.returned (.slice (some ⟨T, 0, none⟩) n n)) wr :=
  made_of (F := wd x) (fun k _ => wd_lt hx k) (fun j hj => by rw [decide_eq_false (by omega), Bool.or_false]; rfl) hr hT (by unfold maxLen; omega) hb

set_option maxRecDepth 100000 in
set_option maxHeartbeats 1600000 in
theorem pset : SetOK := by
  intro A n c i x w hn hb hc hcm hI hr hx
  obtain ⟨i0, hi, hz0, hz1, hz2⟩ := info_parts Try.infoU64
  have HN := Lib.hid hn
  have HIi := Lib.hid hI
  clear hn hI
  go_enter Try.func13, Try.ntmps13
  go_upto_region 2 with (at_make; refine wpList_make_row _ rfl _ _ 23 rfl 25 i0 (.int .u64 0) Try.underlying23 hi hz0 hz1 rfl .i64 .i64 n rfl rfl (by rw [hz2]; omega) (by omega) ?_)
  have hb1 : Below w.heap.size w (w.alloc (.cells (madeCells #[.int .u64 0] n) 25)) := (Below.refl _ _).alloc (Nat.le_refl _) _
  have HH : Hid ((w.alloc (.cells (madeCells #[.int .u64 0] n) 25)).heap[w.heap.size]? = some (.cells (List.replicate n (.int .u64 0)).toArray 25 (0, 0))) := by
    show _ = _
    rw [← toList_madeCells_one, Array.toArray_toList]
    exact blk_new w _
  have r1 := hr.below hb1
  generalize w.alloc (.cells (madeCells #[.int .u64 0] n) 25) = w0 at *
  obtain ⟨cur, hcur⟩ : ∃ cur : List Value, List.replicate n (.int .u64 0) = cur := ⟨_, rfl⟩
  obtain ⟨cs, hcs⟩ : ∃ cs : List Value, uv (x.take n) = cs := ⟨_, rfl⟩
  have HC := Lib.hid hcur
  have HS := Lib.hid hcs
  rw [hcur] at HH
  have G1 : Hid (cs.length = Nat.min n n) := by show _ = _; rw [← hcs, uv_length, List.length_take, HN.out]
  have G2 : Hid (0 < cs.length → ∃ ad, A = some ad ∧ ∀ j v, cs[j]? = some v → w0.cell? (ad.add j) = some v) := by show _ → _; rw [← hcs]; exact r1.ofTake
  have G3 : Hid (0 + cs.length ≤ cur.length) := by show _ ≤ _; rw [← hcs, ← hcur, uv_length, List.length_take, List.length_replicate]; omega
  have G4 : Hid (∀ v ∈ cs, v.oneCell' = true) := by show ∀ v ∈ cs, _; rw [← hcs]; exact uv_one _
  clear hcur hcs
  go_wp2_with (with_reducible refine wpList_copy_splice rfl (.tmp 9) (.tmp 10) 23 23 rfl 25 Try.underlying23 Try.infoU64s (some ⟨w.heap.size, 0, none⟩) A n n n c rfl rfl w.heap.size 0 cur 25 HH.out cs G1.out (fun hp => ⟨rfl, G2.out hp⟩) G3.out G4.out w.heap.size w hb1 (Nat.le_refl _) ?_)
  intro w2 HG hb2
  rw [← HS.out, ← HC.out] at HG
  have hrow := row_of_splice HG.out
  clear HG HH r1 hb1 HS HC G1 G2 G3 G4 hr
  have hHAS := phas (some ⟨w.heap.size, 0, none⟩) n n i w2 HIi.out hb
  by_cases h0 : 0 ≤ i ∧ i < 64 * (n : Int)
  · obtain ⟨i, rfl⟩ := Int.eq_ofNat_of_zero_le h0.1
    have hin : i / 64 < n := by omega
    have hi1 : i ≤ 1048576 := by omega
    rw [has_in hin] at hHAS
    clear h0
    go_wp2_with fail
    refine hHAS.mono ?_
    rintro e w3 ⟨rfl, rfl⟩
    clear hHAS
    have t1 := hrow.cell hin
    have t2 := hrow.frozen (i / 64)
    have h64 : i % 64 < 64 := Nat.mod_lt _ (by decide)
    have HE := Lib.hid (u64_or_nat (wd x (i / 64)) (2 ^ (i % 64)) (wd_lt hx _) (show 2 ^ (i % 64) < 2 ^ 64 from Nat.pow_lt_pow_right (by decide) h64))
    have HQ := Lib.hid (fun z hz => set_made (i := i) (z := z) hx hrow.drew (Nat.le_refl _) hb (below_drew hb2) hz)
    obtain ⟨p, hp⟩ : ∃ p, 2 ^ (i % 64) = p := ⟨_, rfl⟩
    rw [hp] at HE HQ
    have HP := Lib.hid hp
    generalize wd x (i / 64) = u at *
    obtain ⟨q, hq⟩ : ∃ q, i / 64 = q := ⟨_, rfl⟩
    rw [hq] at t1 t2 HQ hin
    have zq : (i : Int) / 64 = (q : Int) := by omega
    have zw := IntWalk.i64_in (q : Int) (by omega)
    clear hrow hb2 hp hq
    go_wp2_with fail
    go_region_with (go_at_call 37; refine (pbit i _ hi1).mono ?_; rintro e w4 ⟨rfl, rfl⟩; rw [HP.out])
    all_goals (go_wp2_with fail; go_ret; exact HQ.out _ HE.out)
  · rw [has_not h0] at hHAS
    have HQ := Lib.hid (set_same hx h0 hrow (Nat.le_refl _) hb hb2)
    clear h0 hrow hb2
    go_wp2_with fail
    refine hHAS.mono ?_
    rintro e w3 ⟨rfl, rfl⟩
    clear hHAS
    go_wp2_with fail
    go_ret
    exact HQ.out

end Go.Proofs.Ytndmgpgdkekbhaa
