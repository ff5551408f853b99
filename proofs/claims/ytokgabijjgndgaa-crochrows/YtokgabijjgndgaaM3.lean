/-
  Words and contracts that the proof leans on.
-/
import Derived.Test.YtokgabijjgndgaaM2
import Derived.Deep.QuietTactic
import Derived.BigQuiet
namespace Go.Proofs.Ytokgabijjgndgaa
open Go.RowKit

/-- Numbers as values. -/
def iv (l : List Int) : List Value := l.map (Value.int .i64)
theorem iv_append (l r : List Int) : iv (l ++ r) = iv l ++ iv r := by simp [iv]
theorem Row.int {w : World} {A : Option Addr} {l : List Int} (h : Row w A (iv l)) {k : Nat} (hk : k < l.length) :
    ∃ g o, A = some ⟨g, o, none⟩ ∧ w.cell? ⟨g, o + k, none⟩ = some (.int .i64 l[k]) := by
  obtain ⟨g, o, e, hc⟩ := h.at_ k (by simpa [iv] using hk)
  exact ⟨g, o, e, by rw [hc]; simp [iv]⟩

end Go.Proofs.Ytokgabijjgndgaa

namespace Go.Proofs.Ytokgabijjgndgaa
open Go.RowKit

/-! Rows of the call's own, of whatever cells an element has. -/
theorem own_rowS {w : World} {base sz : Nat} {e : TypeId} {A : Option Addr} {n c : Nat} {us : List Value} (h : w.ownsRow base e sz (.slice A n c) n us) : Row w A us := fun hne => by
  rcases h.2 with ⟨_, h0⟩ | ⟨g, cap, cur, hv, _⟩
  · exact absurd (List.eq_nil_of_length_eq_zero (by rw [h.1, h0, Nat.zero_mul])) hne
  · have hA : A = some ⟨g, 0, none⟩ := by injection hv
    subst hA
    refine ⟨g, 0, rfl, fun i u hu => ?_⟩
    have := h.cells (g := g) rfl i u hu
    simpa [Addr.add_lit] using this
theorem own_sliceS {w : World} {B n sz : Nat} {e : TypeId} {v : Value} {vs : List Value} (h : w.ownsRow B e sz v n vs) : ∃ A c, v = .slice A n c ∧ n ≤ c ∧ c ≤ maxLen ∧ Row w A vs ∧ (A = none → c = 0) := by
  rcases h.2 with ⟨e, h0⟩ | ⟨g, cap, cur, hv, _, _, h1, h2, _⟩
  · subst h0
    subst e
    have hl : vs = [] := List.eq_nil_of_length_eq_zero (by simpa using h.1)
    subst hl
    exact ⟨none, 0, rfl, Nat.le_refl _, Nat.zero_le _, Row.nil _ _, fun _ => rfl⟩
  · subst hv
    exact ⟨_, cap, rfl, h1, h2, own_rowS h, fun e => by cases e⟩

/-- A block of one pair, as a literal makes it. -/
theorem pair_new (w : World) (x y : Value) (t : TypeId) : ∀ j u, [x, y][j]? = some u → (w.alloc (.cells #[x, y] t)).cell? ((⟨w.heap.size, 0, none⟩ : Addr).add j) = some u := by
  intro j u hu
  have h := Row.new w [x, y] t (0, 0) (by simp)
  obtain ⟨g, o, e, hc⟩ := h
  cases e
  rw [Addr.add_lit]
  exact hc j u hu
end Go.Proofs.Ytokgabijjgndgaa

namespace Go.Proofs.Ytokgabijjgndgaa
open Go.RowKit

theorem own_setS {w : World} {B n sz g c : Nat} {e : TypeId} {us : List Value} (h : w.ownsRow B e sz (.slice (some ⟨g, 0, none⟩) n c) n us) (i : Nat) (x : Value) : (w.setCell ⟨g, i, none⟩ x).ownsRow B e sz (.slice (some ⟨g, 0, none⟩) n c) n (us.set i x) := by
  obtain ⟨hl, h2⟩ := h
  refine ⟨by simpa using hl, .inr ?_⟩
  rcases h2 with ⟨hv, _⟩ | ⟨g', cap, cur, hv, hg, hh, h3, h4, h5, h6⟩
  · cases hv
  · have e1 : g = g' := by injection hv with h; injection h with h; injection h
    have e2 : c = cap := by injection hv
    subst e1
    subst e2
    refine ⟨g, c, cur.setIfInBounds i x, rfl, hg, heap_setCell_same w g i cur e x hh, h3, h4, by simpa using h5, ?_⟩
    rw [Array.toList_setIfInBounds, List.take_set, h6]
theorem grown_setS {w w1 : World} {b : Option Nat} {g i : Nat} {x : Value} (h : w.grownBy w1 b) (hg : some g = b ∨ w.heap.size ≤ g) : w.grownBy (w1.setCell ⟨g, i, none⟩ x) b := by
  refine ⟨h.os, h.tape, h.output, by simpa using h.size, fun k hk hne => ?_⟩
  rw [heap_setCell_other _ _ _ _ (fun e => ?_)]
  · exact h.block k hk hne
  · simp only at e
    subst e
    rcases hg with hg | hg
    · exact hne hg
    · omega
theorem own_posS {w : World} {B n sz : Nat} {e : TypeId} {v : Value} {us : List Value} (h : w.ownsRow B e sz v n us) (hn : 0 < n) : ∃ g c, v = .slice (some ⟨g, 0, none⟩) n c ∧ (∀ i, w.frozen? ⟨g, i, none⟩ = false) ∧ B ≤ g ∧ g < w.heap.size := by
  rcases h.2 with ⟨_, h0⟩ | ⟨g, cap, cur, hv, hg, hh, h3, h4, h5, h6⟩
  · omega
  · refine ⟨g, cap, hv, fun i => ?_, hg, (Array.getElem?_eq_some_iff.1 hh).1⟩
    simp [World.frozen?, hh]

end Go.Proofs.Ytokgabijjgndgaa

namespace Go.Proofs.Ytokgabijjgndgaa
open Go.RowKit

/-- Numbers brought to a few. -/
def few (n : Int) (l : List Int) : List Int := l.map fun x => x % n
theorem few_length (n : Int) (l : List Int) : (few n l).length = l.length := by simp [few]
theorem few_step {n : Int} {l : List Int} {k : Nat} {x : Int} (h : l[k]? = some x) : few n (l.take (k + 1)) = few n (l.take k) ++ [x % n] := by
  obtain ⟨hk, e⟩ := List.getElem?_eq_some_iff.1 h
  rw [List.take_succ_eq_append_getElem hk, e]
  simp [few]

theorem mod_unique {x n r q : Int} (hn : 0 < n) (h : r + n * q = x) (h0 : 0 ≤ r) (h1 : r < n) : x % n = r := ((Int.ediv_emod_unique hn).2 ⟨h, h0, h1⟩).2
theorem tmod_few {x n : Int} (hn : 0 < n) : (-n < x.tmod n ∧ x.tmod n < n) ∧ (x.tmod n < 0 → x.tmod n + n = x % n) ∧ (¬ x.tmod n < 0 → x.tmod n = x % n) := by
  by_cases h : 0 ≤ x
  · rw [Int.tmod_eq_emod_of_nonneg h]
    have h1 := Int.emod_nonneg x (by omega : n ≠ 0)
    have h2 := Int.emod_lt_of_pos x hn
    exact ⟨by omega, fun h => by omega, fun _ => rfl⟩
  · obtain ⟨y, rfl⟩ : ∃ y, x = -y := ⟨-x, by omega⟩
    rw [Int.neg_tmod, Int.tmod_eq_emod_of_nonneg (by omega : 0 ≤ y)]
    have h1 := Int.emod_nonneg y (by omega : n ≠ 0)
    have h2 := Int.emod_lt_of_pos y hn
    have h3 := Int.mul_ediv_add_emod y n
    generalize y % n = r at *
    generalize y / n = q at *
    refine ⟨by omega, fun hr => ?_, fun hr => ?_⟩
    · refine (mod_unique (q := -q - 1) hn ?_ (by omega) (by omega)).symm
      rw [Int.mul_sub, Int.mul_neg]
      omega
    · refine (mod_unique (q := -q) hn ?_ (by omega) (by omega)).symm
      rw [Int.mul_neg]
      omega

/-- The head of a round. -/
def FewRel (n : Int) (l : List Int) (w : World) (v i : Value) (wr : World) : Prop :=
  ∃ k : Nat, k ≤ l.length ∧ i = .int .i64 k ∧ wr.ownsRow w.heap.size 3 1 v k (iv (few n (l.take k))) ∧ Below w.heap.size w wr

set_option maxHeartbeats 800000 in
theorem few_any (A : Option Addr) (N c : Nat) (l : List Int) (n : Int) (w : World) (hN : l.length = N) (hb : N ≤ 1048576) (h1 : 0 < n) (h2 : n ≤ 1000) (hr : Row w A (iv l)) :
    Calls Try.prog 16 #[.slice A N c, .int .i64 n] w (MadeI (few n l) w) := by
  subst hN
  obtain ⟨i0, hi, hz0, hz1, hz2⟩ := info_parts Try.infoInt
  go_enter Try.func16, Try.ntmps16
  go_wp2_with fail
  go_loopw [5, 6] (fun v i wr => FewRel n l w v i wr) (fun _ i _ => l.length - (intOf i).toNat)
  case atStart => exact ⟨0, Nat.zero_le _, rfl, World.ownsRow_nil _ _ _ _, Below.refl _ _⟩
  case round =>
    obtain ⟨k, hk, rfl, hwn, hbr⟩ := hrel
    have hsz := hbr.size
    by_cases hlt : k < l.length
    · obtain ⟨g, o, rfl, hc⟩ := (hr.below hbr).int hlt
      have HX : Hid (l[k]? = some l[k]) := List.getElem?_eq_getElem hlt
      generalize l[k] = x at *
      clear hr
      obtain ⟨⟨t1, t2⟩, HM1, HM2⟩ := tmod_few (x := x) h1
      by_cases ht : x.tmod n < 0
      · have HM := Lib.hid (HM1 ht)
        clear HM1 HM2
        go_wp2_with (at_builtin; refine wpList_append_own _ rfl (.tmp 25) (.tmp 27) 27 rfl w.heap.size 3 i0 (.int .i64 0) 1 8 Try.underlying27 hi hz0 hz1 hz2 rfl (by decide) _ _ _ rfl (hwn.alloc _) ⟨wr.heap.size, 0, none⟩ 1 1 [_] rfl rfl (cell_one_new _ _ _) (one_int _ _) (by unfold maxLen; omega) (by omega) (by simp; omega) ?_)
        intro v' w3 hown' hg' _
        have R : FewRel n l w v' (.int .i64 (k + 1 : Nat)) w3 := by
          refine ⟨k + 1, by omega, rfl, ?_, (hbr.alloc (by omega) _).grown hg' (by simp; omega) (fun x hx => (hwn.lt x hx).1)⟩
          rw [few_step HX.out, iv_append, ← HM.out]
          exact hown'
        clear hown' hg' hwn hbr
        go_wp2_with fail
        go_roundw
        case rel => exact R
        case measure => simp [intOf]; omega
      · have HM := Lib.hid (HM2 ht)
        clear HM1 HM2
        go_wp2_with (at_builtin; refine wpList_append_own _ rfl (.tmp 25) (.tmp 27) 27 rfl w.heap.size 3 i0 (.int .i64 0) 1 8 Try.underlying27 hi hz0 hz1 hz2 rfl (by decide) _ _ _ rfl (hwn.alloc _) ⟨wr.heap.size, 0, none⟩ 1 1 [_] rfl rfl (cell_one_new _ _ _) (one_int _ _) (by unfold maxLen; omega) (by omega) (by simp; omega) ?_)
        intro v' w3 hown' hg' _
        have R : FewRel n l w v' (.int .i64 (k + 1 : Nat)) w3 := by
          refine ⟨k + 1, by omega, rfl, ?_, (hbr.alloc (by omega) _).grown hg' (by simp; omega) (fun x hx => (hwn.lt x hx).1)⟩
          rw [few_step HX.out, iv_append, ← HM.out]
          exact hown'
        clear hown' hg' hwn hbr
        go_wp2_with fail
        go_roundw
        case rel => exact R
        case measure => simp [intOf]; omega
    · have hkl : k = l.length := by omega
      subst hkl
      rw [List.take_length] at hwn
      have HF : Hid (MadeI (few n l) w (.returned u5) wr) := ⟨u5, rfl, by rw [few_length]; exact hwn, hbr⟩
      clear hwn hbr
      go_wp2_with fail
      go_ret
      exact HF.out

end Go.Proofs.Ytokgabijjgndgaa
