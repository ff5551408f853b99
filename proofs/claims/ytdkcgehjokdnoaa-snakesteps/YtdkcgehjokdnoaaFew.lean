/-
  Contract of the reference's Few.
-/
import Derived.Test.YtdkcgehjokdnoaaRefI
namespace Go.Proofs.Ytdkcgehjokdnoaa
open Go.RowKit

/-- Numbers brought to a few. -/
def few (n : Int) (l : List Int) : List Int := l.map fun x => x % n
theorem few_length (n : Int) (l : List Int) : (few n l).length = l.length := by simp [few]
theorem few_step {n : Int} {l : List Int} {k : Nat} {x : Int} (h : l[k]? = some x) : few n (l.take (k + 1)) = few n (l.take k) ++ [x % n] := by
  obtain ⟨hk, e⟩ := List.getElem?_eq_some_iff.1 h
  rw [List.take_succ_eq_append_getElem hk, e]
  simp [few]

theorem mod_unique {x n r q : Int} (hn : 0 < n) (h : r + n * q = x) (h0 : 0 ≤ r) (h1 : r < n) : x % n = r := ((Int.ediv_emod_unique hn).2 ⟨h, h0, h1⟩).2
theorem tmod_few {x n : Int} (hn : 0 < n) : (-n < x.tmod n ∧ x.tmod n < n) ∧ (x.tmod n < 0 → x.tmod n + n = x % n) ∧ (¬ x.tmod n < 0 → x.tmod n = x % n) := by
  by_cases h : 0 ≤ x
  · rw [Int.tmod_eq_emod_of_nonneg h]
    have h1 := Int.emod_nonneg x (by omega : n ≠ 0)
    have h2 := Int.emod_lt_of_pos x hn
    exact ⟨by omega, fun h => by omega, fun _ => rfl⟩
  · obtain ⟨y, rfl⟩ : ∃ y, x = -y := ⟨-x, by omega⟩
    rw [Int.neg_tmod, Int.tmod_eq_emod_of_nonneg (by omega : 0 ≤ y)]
    have h1 := Int.emod_nonneg y (by omega : n ≠ 0)
    have h2 := Int.emod_lt_of_pos y hn
    have h3 := Int.mul_ediv_add_emod y n
    generalize y % n = r at *
    generalize y / n = q at *
    refine ⟨by omega, fun hr => ?_, fun hr => ?_⟩
    · refine (mod_unique (q := -q - 1) hn ?_ (by omega) (by omega)).symm
      rw [Int.mul_sub, Int.mul_neg]
      omega
    · refine (mod_unique (q := -q) hn ?_ (by omega) (by omega)).symm
      rw [Int.mul_neg]
      omega

/-- The head of a round. -/
def FewRel (n : Int) (l : List Int) (w : World) (v i : Value) (wr : World) : Prop :=
  ∃ k : Nat, k ≤ l.length ∧ i = .int .i64 k ∧ wr.ownsRow w.heap.size 3 1 v k (iv (few n (l.take k))) ∧ Below w.heap.size w wr

set_option maxHeartbeats 800000 in
theorem few_any (A : Option Addr) (N c : Nat) (l : List Int) (n : Int) (w : World) (hN : l.length = N) (hb : N ≤ 1048576) (h1 : 0 < n) (h2 : n ≤ 1000) (hr : Row w A (iv l)) :
    Calls Try.prog 12 #[.slice A N c, .int .i64 n] w (MadeI (few n l) w) := by
  subst hN
  obtain ⟨i0, hi, hz0, hz1, hz2⟩ := info_parts Try.infoInt
  go_enter Try.func12, Try.ntmps12
  go_wp2_with fail
  go_loopw [5, 6] (fun v i wr => FewRel n l w v i wr) (fun _ i _ => l.length - (intOf i).toNat)
  case atStart => exact ⟨0, Nat.zero_le _, rfl, World.ownsRow_nil _ _ _ _, Below.refl _ _⟩
  case round =>
    obtain ⟨k, hk, rfl, hwn, hbr⟩ := hrel
    have hsz := hbr.size
    by_cases hlt : k < l.length
    · obtain ⟨g, o, rfl, hc⟩ := (hr.below hbr).int hlt
      have HX : Hid (l[k]? = some l[k]) := List.getElem?_eq_getElem hlt
      generalize l[k] = x at *
      clear hr
      obtain ⟨⟨t1, t2⟩, HM1, HM2⟩ := tmod_few (x := x) h1
      by_cases ht : x.tmod n < 0
      · have HM := Lib.hid (HM1 ht)
        clear HM1 HM2
        go_wp2_with (at_builtin; refine wpList_append_own _ rfl (.tmp 25) (.tmp 27) 22 rfl w.heap.size 3 i0 (.int .i64 0) 1 8 Try.underlying22 hi hz0 hz1 hz2 rfl (by decide) _ _ _ rfl (hwn.alloc _) ⟨wr.heap.size, 0, none⟩ 1 1 [_] rfl rfl (cell_one_new _ _ _) (one_int _ _) (by unfold maxLen; omega) (by omega) (by simp; omega) ?_)
        intro v' w3 hown' hg' _
        have R : FewRel n l w v' (.int .i64 (k + 1 : Nat)) w3 := by
          refine ⟨k + 1, by omega, rfl, ?_, (hbr.alloc (by omega) _).grown hg' (by simp; omega) (fun x hx => (hwn.lt x hx).1)⟩
          rw [few_step HX.out, iv_append, ← HM.out]
          exact hown'
        clear hown' hg' hwn hbr
        go_wp2_with fail
        go_roundw
        case rel => exact R
        case measure => simp [intOf]; omega
      · have HM := Lib.hid (HM2 ht)
        clear HM1 HM2
        go_wp2_with (at_builtin; refine wpList_append_own _ rfl (.tmp 25) (.tmp 27) 22 rfl w.heap.size 3 i0 (.int .i64 0) 1 8 Try.underlying22 hi hz0 hz1 hz2 rfl (by decide) _ _ _ rfl (hwn.alloc _) ⟨wr.heap.size, 0, none⟩ 1 1 [_] rfl rfl (cell_one_new _ _ _) (one_int _ _) (by unfold maxLen; omega) (by omega) (by simp; omega) ?_)
        intro v' w3 hown' hg' _
        have R : FewRel n l w v' (.int .i64 (k + 1 : Nat)) w3 := by
          refine ⟨k + 1, by omega, rfl, ?_, (hbr.alloc (by omega) _).grown hg' (by simp; omega) (fun x hx => (hwn.lt x hx).1)⟩
          rw [few_step HX.out, iv_append, ← HM.out]
          exact hown'
        clear hown' hg' hwn hbr
        go_wp2_with fail
        go_roundw
        case rel => exact R
        case measure => simp [intOf]; omega
    · have hkl : k = l.length := by omega
      subst hkl
      rw [List.take_length] at hwn
      have HF : Hid (MadeI (few n l) w (.returned u5) wr) := ⟨u5, rfl, by rw [few_length]; exact hwn, hbr⟩
      clear hwn hbr
      go_wp2_with fail
      go_ret
      exact HF.out

end Go.Proofs.Ytdkcgehjokdnoaa
