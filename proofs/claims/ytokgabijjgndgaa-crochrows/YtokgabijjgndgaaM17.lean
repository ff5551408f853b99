/-
  Words and contracts that the proof leans on.
-/
import Derived.Test.YtokgabijjgndgaaM16
import Derived.Deep.QuietTactic
import Derived.BigQuiet
namespace Go.Proofs.Ytokgabijjgndgaa
open Go.RowKit

/-- How wide. -/
def wid (n : Int) : Nat := if n < 0 then 0 else if 1048576 < n then 1048576 else n.toNat
def wdsVc3 (n : Int) : Nat := (wid n + 63) / 64
theorem wid_le (n : Int) : wid n ≤ 1048576 := by unfold wid; split; omega; split <;> omega
theorem wds_wid (n : Int) : wid n ≤ 64 * wdsVc3 n := by unfold wdsVc3; omega
theorem wds_le (n : Int) : wdsVc3 n ≤ 16384 := by have := wid_le n; unfold wdsVc3; omega

theorem width_any (n : Int) (w : World) : Calls Try.prog 42 #[.int .i64 n] w fun e w' => e = .returned (.int .i64 (wid n : Nat)) ∧ w = w' := by
  obtain ⟨r, hr⟩ : ∃ r, wid n = r := ⟨_, rfl⟩
  rw [hr]
  unfold wid at hr
  by_cases h0 : n < 0
  · rw [if_pos h0] at hr
    subst hr
    go_enter Try.func42, Try.ntmps42
    go_wp2_with fail
    go_ret
    exact ⟨rfl, rfl⟩
  · rw [if_neg h0] at hr
    by_cases h1 : 1048576 < n
    · rw [if_pos h1] at hr
      subst hr
      go_enter Try.func42, Try.ntmps42
      go_wp2_with fail
      go_ret
      exact ⟨rfl, rfl⟩
    · rw [if_neg h1] at hr
      obtain ⟨k, rfl⟩ := Int.eq_ofNat_of_zero_le (show 0 ≤ n by omega)
      rw [Int.toNat_natCast] at hr
      subst hr
      go_enter Try.func42, Try.ntmps42
      go_wp2_with fail
      go_ret
      exact ⟨rfl, rfl⟩

theorem words_any (n : Int) (w : World) : Calls Try.prog 39 #[.int .i64 n] w fun e w' => e = .returned (.int .i64 (wdsVc3 n : Nat)) ∧ w = w' := by
  have h := wid_le n
  have HE : Hid ((((wid n : Nat) : Int) + 63) / 64 = (wdsVc3 n : Nat)) := by show _ = _; unfold wdsVc3; omega
  go_enter Try.func39, Try.ntmps39
  go_wp2_with fail
  refine (width_any n _).mono ?_
  rintro e w' ⟨rfl, rfl⟩
  generalize wid n = N at *
  go_wp2_with fail
  go_ret
  exact ⟨ret_int HE.out, rfl⟩

theorem Try.infoBool : (Try.prog.info? 4).map (fun i => (i.zero, i.size, i.bytes)) = some (some (.bool false), 1, 1) := by kernel_rfl

/-- Bits below i are laid down. -/
def BitF (g : Nat → Bool) (i k : Nat) : Value := .bool (decide (k < i) && g k)
def BitRel (N : Nat) (g : Nat → Bool) (w : World) (i : Value) (wr : World) : Prop :=
  ∃ k : Nat, k ≤ N ∧ i = .int .i64 (k : Int) ∧ wr.rowIs w.heap.size 4 N (BitF g k) ∧ Below w.heap.size w wr
theorem bit_start (N : Nat) (g : Nat → Bool) (w : World) : (w.alloc (.cells (madeCells #[.bool false] N) 4)).rowIs w.heap.size 4 N (BitF g 0) := (World.rowIs_made w _ _ _).congr fun i _ => by simp [BitF]
theorem bit_setVc3 {N k T : Nat} {g : Nat → Bool} {wr : World} (h : wr.rowIs T 4 N (BitF g k)) : (wr.setCell ⟨T, k, none⟩ (.bool (g k))).rowIs T 4 N (BitF g (k + 1)) := (h.set k _).congr fun i _ => by
  unfold BitF
  by_cases e : i = k
  · subst e
    rw [if_pos rfl, decide_eq_true (by omega), Bool.true_and]
  · rw [if_neg e]
    by_cases g1 : i < k
    · rw [decide_eq_true g1, decide_eq_true (by omega)]
    · rw [decide_eq_false g1, decide_eq_false (by omega)]
theorem bit_row {N T : Nat} {g : Nat → Bool} {wr : World} (h : wr.rowIs T 4 N (BitF g N)) : Row wr (some ⟨T, 0, none⟩) (lv ((List.range N).map g)) := fun _ => ⟨T, 0, rfl, fun i u hu => by
  unfold lv at hu
  rw [List.map_map, List.getElem?_map] at hu
  obtain ⟨k, hk, rfl⟩ := Option.map_eq_some_iff.1 hu
  obtain ⟨hi, e⟩ := List.getElem?_eq_some_iff.1 hk
  simp only [List.length_range] at hi
  rw [List.getElem_range] at e
  subst e
  rw [Nat.zero_add, h.cell hi]
  simp [BitF, hi]⟩
theorem bits_get (N : Nat) (g : Nat → Bool) (j : Nat) : (((List.range N).map g)[j]?.getD false) = (decide (j < N) && g j) := by
  rw [List.getElem?_map]
  by_cases h : j < N
  · rw [List.getElem?_range h, decide_eq_true h]
    rfl
  · rw [List.getElem?_eq_none (by simp; omega), decide_eq_false h]
    rfl
theorem btI_nat (x : List Nat) (i : Nat) : btI x (i : Int) = bt x i := by unfold btI; rw [decide_eq_true (by omega), Bool.true_and]; rfl

end Go.Proofs.Ytokgabijjgndgaa
