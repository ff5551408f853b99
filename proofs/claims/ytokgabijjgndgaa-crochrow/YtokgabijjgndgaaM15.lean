/-
  Words and contracts that the proof leans on.
-/
import Derived.Test.YtokgabijjgndgaaM8
import Derived.Laws.BitsAllLaws
namespace Go.Proofs.Ytokgabijjgndgaa
open Go.RowKit

/-- Words as values. -/
def uv (x : List Nat) : List Value := x.map fun n : Nat => Value.int .u64 (n : Int)
theorem uv_length (x : List Nat) : (uv x).length = x.length := by simp [uv]
theorem uv_one (x : List Nat) : ∀ u ∈ uv x, u.oneCell' = true := by
  intro u hu
  obtain ⟨_, _, rfl⟩ := List.mem_map.1 hu
  rfl
theorem Row.word {w : World} {A : Option Addr} {x : List Nat} (h : Row w A (uv x)) {k : Nat} (hk : k < x.length) :
    ∃ g o, A = some ⟨g, o, none⟩ ∧ w.cell? ⟨g, o + k, none⟩ = some (.int .u64 (x[k] : Int)) := by
  obtain ⟨g, o, e, hc⟩ := h.at_ k (by simpa [uv] using hk)
  exact ⟨g, o, e, by rw [hc]; simp [uv]⟩

/-- Bit i. -/
def bt (x : List Nat) (i : Nat) : Bool := (x[i / 64]?.getD 0).testBit (i % 64)
def btI (x : List Nat) (i : Int) : Bool := decide (0 ≤ i) && bt x i.toNat

theorem bit_test (u k : Nat) (hu : u < 18446744073709551616) : (bits .and .u64 ((u : Int) / 2 ^ k) 1 == 1) = u.testBit k := by
  have e : (u : Int) / 2 ^ k = ((u / 2 ^ k : Nat) : Int) := by rw [Int.natCast_ediv, Int.natCast_pow]; rfl
  have h : u / 2 ^ k < 18446744073709551616 := Nat.lt_of_le_of_lt (Nat.div_le_self _ _) hu
  rw [e, show (1 : Int) = ((1 : Nat) : Int) from rfl, u64_and_nat _ _ h (by decide), Nat.and_one_is_mod, Nat.testBit_eq_decide_div_mod_eq]
  by_cases g : u / 2 ^ k % 2 = 1
  · rw [g]; rfl
  · rw [decide_eq_false g]
    have : u / 2 ^ k % 2 = 0 := by omega
    rw [this]
    rfl
theorem bt_out {x : List Nat} {i : Nat} (h : x.length ≤ i / 64) : bt x i = false := by
  unfold bt
  rw [List.getElem?_eq_none h]
  simp

set_option maxHeartbeats 800000 in
theorem get_any (A : Option Addr) (n c : Nat) (i : Int) (x : List Nat) (w : World) (hn : x.length = n) (hi : I64 i) (hr : Row w A (uv x)) (hx : ∀ u ∈ x, u < 18446744073709551616) :
    Calls Try.prog 43 #[.slice A n c, .int .i64 i] w fun e w' => e = .returned (.bool (btI x i)) ∧ w = w' := by
  subst hn
  unfold I64 at hi
  by_cases h0 : 0 ≤ i
  · obtain ⟨i, rfl⟩ := Int.eq_ofNat_of_zero_le h0
    have e0 : btI x (i : Int) = bt x i := by unfold btI; rw [decide_eq_true h0, Bool.true_and]; rfl
    rw [e0]
    clear e0
    by_cases hin : i / 64 < x.length
    · obtain ⟨g, o, rfl, hc⟩ := hr.word hin
      have hw := hx _ (List.getElem_mem hin)
      have HB : Hid (bt x i = (x[i / 64]'hin).testBit (i % 64)) := by show _ = _; unfold bt; rw [List.getElem?_eq_getElem hin]; rfl
      generalize x[i / 64] = u at *
      have HT := Lib.hid (bit_test u (i % 64) hw)
      have h64 : i % 64 < 64 := Nat.mod_lt _ (by decide)
      clear hr hx
      go_enter Try.func43, Try.ntmps43
      go_wp2_with fail
      go_ret
      exact ⟨ret_bool (by rw [HB.out, ← HT.out]), rfl⟩
    · have HB := Lib.hid (bt_out (x := x) (i := i) (by omega))
      clear hr hx
      rw [HB.out]
      go_enter Try.func43, Try.ntmps43
      go_wp2_with fail
      go_ret
      exact ⟨rfl, rfl⟩
  · have e0 : btI x i = false := by unfold btI; rw [decide_eq_false h0, Bool.false_and]
    rw [e0]
    clear e0 hr hx
    go_enter Try.func43, Try.ntmps43
    go_wp2_with fail
    go_ret
    exact ⟨rfl, rfl⟩

end Go.Proofs.Ytokgabijjgndgaa
