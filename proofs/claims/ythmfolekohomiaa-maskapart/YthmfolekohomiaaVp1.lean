/-
  Package vec over the landed code: width, Words, word, zeros, has, bit.
-/
import Derived.Test.YthmfolekohomiaaVl0
import Derived.Deep.OwnRows
namespace Go.Proofs.Ythmfolekohomiaa
open Go.RowKit

theorem wid_lo {n : Int} (h : n < 0) : (0 : Int) = (wid n : Nat) := by unfold wid; rw [if_pos h]; rfl
theorem wid_hi {n : Int} (h : 1048576 < n) : (1048576 : Int) = (wid n : Nat) := by unfold wid; rw [if_neg (by omega), if_pos h]; rfl
theorem wid_mid {n : Int} (h : ¬ n < 0) (h1 : ¬ 1048576 < n) : n = (wid n : Nat) := by unfold wid; rw [if_neg h, if_neg h1]; omega

theorem pwidth (n : Int) (w : World) : Calls Try.prog 29 #[.int .i64 n] w fun e w' => e = .returned (.int .i64 (wid n : Nat)) ∧ w = w' := by
  obtain ⟨r, hr⟩ : ∃ r, wid n = r := ⟨_, rfl⟩
  rw [hr]
  by_cases h0 : n < 0
  · have HR := Lib.hid (hr ▸ wid_lo h0)
    clear hr
    go_enter Try.func29, Try.ntmps29
    go_wp2_with fail
    all_goals (go_ret; exact ⟨ret_int HR.out, rfl⟩)
  · by_cases h1 : 1048576 < n
    · have HR := Lib.hid (hr ▸ wid_hi h1)
      clear hr
      go_enter Try.func29, Try.ntmps29
      go_wp2_with fail
      all_goals (go_ret; exact ⟨ret_int HR.out, rfl⟩)
    · have HR := Lib.hid (hr ▸ wid_mid h0 h1)
      clear hr
      go_enter Try.func29, Try.ntmps29
      go_wp2_with fail
      all_goals (go_ret; exact ⟨ret_int HR.out, rfl⟩)

theorem pwords (n : Int) (w : World) : Calls Try.prog 19 #[.int .i64 n] w fun e w' => e = .returned (.int .i64 (wds n : Nat)) ∧ w = w' := by
  have h := wid_le n
  have HE : Hid ((((wid n : Nat) : Int) + 64 - 1) / 64 = (wds n : Nat)) := by show _ = _; unfold wds; omega
  go_enter Try.func19, Try.ntmps19
  go_wp2_with fail
  refine (pwidth n _).mono ?_
  rintro e w' ⟨rfl, rfl⟩
  generalize wid n = N at *
  go_wp2_with fail
  go_ret
  exact ⟨ret_int HE.out, rfl⟩
theorem wordsOK : WordsOK := fun n w _ => (pwords n w).mono fun _ _ ⟨h, h'⟩ => ⟨h, h' ▸ Below.refl _ _⟩

/-- Word k, where words of noughts follow. -/
def wd (x : List Nat) (k : Nat) : Nat := x[k]?.getD 0
theorem wd_in {x : List Nat} {k : Nat} (h : k < x.length) : x[k] = wd x k := by unfold wd; rw [List.getElem?_eq_getElem h]; rfl
theorem wd_out {x : List Nat} {k : Nat} (h : x.length ≤ k) : 0 = wd x k := by unfold wd; rw [List.getElem?_eq_none h]; rfl
theorem wd_lt {x : List Nat} (h : Wd x) (k : Nat) : wd x k < 18446744073709551616 := by
  by_cases hk : k < x.length
  · rw [← wd_in hk]; exact h _ (List.getElem_mem hk)
  · rw [← wd_out (by omega)]; decide
theorem bt_wd (x : List Nat) (j : Nat) : bt x j = (wd x (j / 64)).testBit (j % 64) := rfl

theorem pword (A : Option Addr) (n c k : Nat) (x : List Nat) (w : World) (hn : x.length = n) (hr : Row w A (uv x)) :
    Calls Try.prog 32 #[.slice A n c, .int .i64 (k : Int)] w fun e w' => e = .returned (.int .u64 (wd x k : Nat)) ∧ w = w' := by
  subst hn
  by_cases hk : k < x.length
  · obtain ⟨g, o, rfl, hc⟩ := hr.word hk
    rw [wd_in hk] at hc
    generalize wd x k = u at *
    clear hr
    go_enter Try.func32, Try.ntmps32
    go_wp2_with fail
    go_ret
    exact ⟨rfl, rfl⟩
  · rw [← wd_out (by omega)]
    clear hr
    go_enter Try.func32, Try.ntmps32
    go_wp2_with fail
    go_ret
    exact ⟨rfl, rfl⟩

/-- New words of noughts. -/
def Noughts (W : Nat) (w : World) (e : Ending) (w' : World) : Prop :=
  e = .returned (.slice (some ⟨w.heap.size, 0, none⟩) W W) ∧ w'.rowIs w.heap.size 28 W (fun _ => .int .u64 0) ∧ Below w.heap.size w w'

set_option maxHeartbeats 800000 in
theorem pzeros (A B : Option Addr) (n m c d W : Nat) (w : World) (hb : n ≤ 16384) (hb' : m ≤ 16384) (hW : max n m = W) :
    Calls Try.prog 31 #[.slice A n c, .slice B m d] w (Noughts W w) := by
  obtain ⟨i0, hi, hz0, hz1, hz2⟩ := info_parts Try.infoU64
  have HF := Lib.hid (World.rowIs_made w (.int .u64 0) W 28)
  have HB : Hid (Below w.heap.size w (w.alloc (.cells (madeCells #[.int .u64 0] W) 28))) := (Below.refl _ _).alloc (Nat.le_refl _) _
  by_cases hmn : n < m
  · obtain rfl : m = W := by omega
    clear hW
    go_enter Try.func31, Try.ntmps31
    go_wp2_with (at_make; refine wpList_make_row _ rfl _ _ 26 rfl 28 i0 (.int .u64 0) Try.underlying26 hi hz0 hz1 rfl .i64 .i64 m rfl rfl (by rw [hz2]; omega) (by omega) ?_)
    go_wp2_with fail
    go_ret
    exact ⟨rfl, HF.out, HB.out⟩
  · obtain rfl : n = W := by omega
    clear hW
    go_enter Try.func31, Try.ntmps31
    go_wp2_with (at_make; refine wpList_make_row _ rfl _ _ 26 rfl 28 i0 (.int .u64 0) Try.underlying26 hi hz0 hz1 rfl .i64 .i64 n rfl rfl (by rw [hz2]; omega) (by omega) ?_)
    go_wp2_with fail
    go_ret
    exact ⟨rfl, HF.out, HB.out⟩

/-- Is there such a bit? -/
def hasB (n : Nat) (i : Int) : Bool := decide (0 ≤ i ∧ i < 64 * (n : Int))
theorem pow_wrap (s : Nat) (hs : s < 64) : IntKind.u64.wrap ((2 : Int) ^ s) = ((2 ^ s : Nat) : Int) := by
  have h2 : 2 ^ s < 18446744073709551616 := Nat.lt_of_lt_of_le (Nat.pow_lt_pow_right (by decide) hs) (by decide)
  have e1 : ((2 : Int) ^ s) = ((2 ^ s : Nat) : Int) := by rw [Int.natCast_pow]; rfl
  rw [e1, IntKind.wrap_u64]
  clear e1
  generalize 2 ^ s = P at *
  omega
end Go.Proofs.Ythmfolekohomiaa
