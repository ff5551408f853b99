/-
  Words and contracts that the proof leans on.
-/
import Derived.Test.YtokgabijjgndgaaM15
import Derived.Deep.OwnRows
namespace Go.Proofs.Ytokgabijjgndgaa
open Go.RowKit

/-- Each is a word. -/
def Wd (x : List Nat) : Prop := ∀ u ∈ x, u < 18446744073709551616
/-- Words are their bits. -/
theorem words_eq {x y : List Nat} (hl : x.length = y.length) (hx : Wd x) (hy : Wd y) (h : ∀ j, bt x j = bt y j) : x = y := by
  apply List.ext_getElem hl
  intro k h1 h2
  apply Nat.eq_of_testBit_eq
  intro t
  by_cases ht : t < 64
  · have := h (64 * k + t)
    unfold bt at this
    rw [show (64 * k + t) / 64 = k by omega, show (64 * k + t) % 64 = t by omega, List.getElem?_eq_getElem h1, List.getElem?_eq_getElem h2] at this
    exact this
  · have a1 := hx _ (List.getElem_mem h1)
    have a2 := hy _ (List.getElem_mem h2)
    have p : 2 ^ 64 ≤ 2 ^ t := Nat.pow_le_pow_right (by decide) (by omega)
    rw [Nat.testBit_lt_two_pow (Nat.lt_of_lt_of_le a1 p), Nat.testBit_lt_two_pow (Nat.lt_of_lt_of_le a2 p)]

/-- Bits as values. -/
def lv (l : List Bool) : List Value := l.map Value.bool
theorem Row.bit {w : World} {A : Option Addr} {l : List Bool} (h : Row w A (lv l)) {k : Nat} (hk : k < l.length) :
    ∃ g o, A = some ⟨g, o, none⟩ ∧ w.cell? ⟨g, o + k, none⟩ = some (.bool l[k]) := by
  obtain ⟨g, o, e, hc⟩ := h.at_ k (by simpa [lv] using hk)
  exact ⟨g, o, e, by rw [hc]; simp [lv]⟩

/-- The words f hold the bits of l below i. -/
def Hold (l : List Bool) (i : Nat) (f : Nat → Nat) : Prop := ∀ k t, (f k).testBit t = (decide (t < 64 ∧ 64 * k + t < i) && (l[64 * k + t]?.getD false))
theorem hold_start (l : List Bool) : Hold l 0 (fun _ => 0) := fun k t => by simp
theorem hold_lt {l : List Bool} {i : Nat} {f : Nat → Nat} (h : Hold l i f) (k : Nat) : f k < 18446744073709551616 := by
  have : f k < 2 ^ 64 := Nat.lt_pow_two_of_testBit _ fun t ht => by
    rw [h k t, decide_eq_false (by omega), Bool.false_and]
  exact this
theorem hold_off {l : List Bool} {i : Nat} {f : Nat → Nat} (h : Hold l i f) (hb : l[i]? = some false) : Hold l (i + 1) f := fun k t => by
  rw [h k t]
  by_cases e : t < 64 ∧ 64 * k + t = i
  · rw [decide_eq_false (by omega), e.2, hb]
    simp
  · by_cases g : t < 64 ∧ 64 * k + t < i
    · rw [decide_eq_true g, decide_eq_true (by omega)]
    · rw [decide_eq_false g, decide_eq_false (by omega)]
theorem hold_on {l : List Bool} {i : Nat} {f : Nat → Nat} (h : Hold l i f) (hb : l[i]? = some true) : Hold l (i + 1) (fun k => if k = i / 64 then f k ||| 2 ^ (i % 64) else f k) := fun k t => by
  by_cases ek : k = i / 64
  · simp only [if_pos ek]
    rw [Nat.testBit_or, h k t, Nat.testBit_two_pow]
    by_cases e : i % 64 = t
    · rw [decide_eq_true e, Bool.or_true, decide_eq_true (by omega), show 64 * k + t = i by omega, hb]
      rfl
    · rw [decide_eq_false e, Bool.or_false]
      by_cases g : t < 64 ∧ 64 * k + t < i
      · rw [decide_eq_true g, decide_eq_true (by omega)]
      · rw [decide_eq_false g, decide_eq_false (by omega)]
  · simp only [if_neg ek]
    rw [h k t]
    by_cases g : t < 64 ∧ 64 * k + t < i
    · rw [decide_eq_true g, decide_eq_true (by omega)]
    · rw [decide_eq_false g, decide_eq_false (by omega)]

theorem own_rowIs {w : World} {T n B : Nat} {t : TypeId} {F : Nat → Value} (h : w.rowIs T t n F) (hB : B ≤ T) (hn : n ≤ maxLen) : w.ownsRow B t 1 (.slice (some ⟨T, 0, none⟩) n n) n ((List.range n).map F) := by
  obtain ⟨c, h1, h2, h3⟩ := h
  refine ⟨by simp, .inr ⟨T, n, c, rfl, hB, h1, Nat.le_refl _, hn, by omega, ?_⟩⟩
  apply List.ext_getElem
  · simp [h2]
  · intro k g1 g2
    simp only [List.length_map, List.length_range] at g2
    have := h3 k g2
    rw [Array.getElem?_eq_some_iff] at this
    obtain ⟨_, e⟩ := this
    simp [e]

/-- What a call leaves that returns W new words with such bits. -/
def MadeV (W : Nat) (b : Nat → Bool) (w : World) (e : Ending) (w' : World) : Prop :=
  ∃ v x, e = .returned v ∧ x.length = W ∧ Wd x ∧ (∀ j, bt x j = (decide (j < 64 * W) && b j)) ∧ w'.ownsRow w.heap.size 24 1 v x.length (uv x) ∧ Below w.heap.size w w'

theorem laid_done {l : List Bool} {i W T : Nat} {f : Nat → Nat} {w wr : World} (h : Hold l i f) (hi : l.length ≤ i ∨ 64 * W ≤ i) (hr : wr.rowIs T 24 W (fun k => .int .u64 (f k : Nat))) (hT : w.heap.size ≤ T) (hW : W ≤ maxLen) (hb : Below w.heap.size w wr) :
    MadeV W (fun j => l[j]?.getD false) w (.returned (.slice (some ⟨T, 0, none⟩) W W)) wr := by
  refine ⟨_, (List.range W).map f, rfl, by simp, ?_, fun j => ?_, ?_, hb⟩
  · intro u hu
    obtain ⟨k, _, rfl⟩ := List.mem_map.1 hu
    exact hold_lt h k
  · unfold bt
    rw [List.getElem?_map]
    by_cases hj : j / 64 < W
    · rw [List.getElem?_range hj]
      show (f (j / 64)).testBit (j % 64) = _
      rw [h, show 64 * (j / 64) + j % 64 = j by omega, decide_eq_true (show j < 64 * W by omega), Bool.true_and]
      by_cases g : j < i
      · rw [decide_eq_true ⟨by omega, g⟩, Bool.true_and]
      · rw [decide_eq_false (by omega), Bool.false_and]
        show false = l[j]?.getD false
        rw [List.getElem?_eq_none (by omega)]
        rfl
    · rw [List.getElem?_eq_none (by simp; omega), decide_eq_false (by omega), Bool.false_and]
      simp
  · have := own_rowIs hr hT hW
    simpa [uv, List.map_map, Function.comp_def] using this

theorem Try.infoU64Vc2 : (Try.prog.info? 24).map (fun i => (i.zero, i.size, i.bytes)) = some (some (.int .u64 0), 1, 8) := by kernel_rfl

theorem or_bitVc2 (u s : Nat) (hu : u < 18446744073709551616) (hs : s < 64) : bits .or .u64 (u : Nat) (IntKind.u64.wrap (2 ^ s)) = ((u ||| 2 ^ s : Nat) : Int) := by
  have h2 : 2 ^ s < 18446744073709551616 := Nat.lt_of_lt_of_le (Nat.pow_lt_pow_right (by decide) hs) (by decide)
  have e : IntKind.u64.wrap ((2 : Int) ^ s) = ((2 ^ s : Nat) : Int) := by
    have e1 : ((2 : Int) ^ s) = ((2 ^ s : Nat) : Int) := by rw [Int.natCast_pow]; rfl
    rw [e1]
    simp only [IntKind.wrap, IntKind.bits, IntKind.signed]
    have : ((2 ^ s : Nat) : Int) % 18446744073709551616 = ((2 ^ s : Nat) : Int) := Int.emod_eq_of_lt (Int.natCast_nonneg _) (Int.ofNat_lt.2 h2)
    simpa using this
  rw [e, u64_or_nat _ _ hu h2]

/-- The head of a round. -/
def LaidRel (l : List Bool) (W : Nat) (w : World) (i : Value) (wr : World) : Prop :=
  ∃ (k : Nat) (f : Nat → Nat), k ≤ l.length ∧ i = .int .i64 (k : Int) ∧ Hold l k f ∧ wr.rowIs w.heap.size 24 W (fun k => .int .u64 (f k : Nat)) ∧ Below w.heap.size w wr

set_option maxHeartbeats 1600000 in
theorem laid_any (A : Option Addr) (n c W : Nat) (l : List Bool) (w : World) (hn : l.length = n) (hb : n ≤ 2147483648) (hW : W ≤ 2147483648) (hr : Row w A (lv l)) :
    Calls Try.prog 38 #[.slice A n c, .int .i64 (W : Int)] w (MadeV W (fun j => l[j]?.getD false) w) := by
  subst hn
  obtain ⟨i0, hi, hz0, hz1, hz2⟩ := info_parts Try.infoU64Vc2
  go_enter Try.func38, Try.ntmps38
  go_wp2_with (at_make; refine wpList_make_row _ rfl _ _ 22 rfl 24 i0 (.int .u64 0) Try.underlying22 hi hz0 hz1 rfl .i64 .i64 W rfl rfl (by rw [hz2]; omega) (by omega) ?_)
  have hT := World.rowIs_made w (.int .u64 0) W 24
  have hB0 : Below w.heap.size w (w.alloc (.cells (madeCells #[.int .u64 0] W) 24)) := (Below.refl _ _).alloc (Nat.le_refl _) _
  generalize w.alloc (.cells (madeCells #[.int .u64 0] W) 24) = w0 at *
  go_wp2_with fail
  go_loopw [6] (fun i wr => LaidRel l W w i wr) (fun i _ => l.length - (intOf i).toNat)
  case atStart => exact ⟨0, fun _ => 0, Nat.zero_le _, rfl, hold_start l, hT, hB0⟩
  case round =>
    clear hT hB0
    obtain ⟨k, f, hk, rfl, hh, hrow, hbw⟩ := hrel
    by_cases hlt : k < l.length
    · by_cases hlw : k / 64 < W
      · obtain ⟨g, o, rfl, hc⟩ := (hr.below hbw).bit hlt
        have HX : Hid (l[k]? = some l[k]) := List.getElem?_eq_getElem hlt
        generalize l[k] = x at *
        clear hr
        have t1 := hrow.cell hlw
        have t2 := hrow.frozen (k / 64)
        have hfl := hold_lt hh (k / 64)
        cases x with
        | false =>
          have R : LaidRel l W w (.int .i64 (k + 1 : Nat)) wr := ⟨k + 1, f, by omega, rfl, hold_off hh HX.out, hrow, hbw⟩
          clear hh hrow hbw t1 t2
          go_wp2_with fail
          go_roundw
          case rel => first | exact R | ((repeat apply Exists.intro); exact ⟨R, rfl⟩)
          case measure => simp [intOf]; omega
        | true =>
          have h64 : k % 64 < 64 := Nat.mod_lt _ (by decide)
          have R : LaidRel l W w (.int .i64 (k + 1 : Nat)) (wr.setCell ⟨w.heap.size, k / 64, none⟩ (.int .u64 (bits .or .u64 (f (k / 64) : Nat) (IntKind.u64.wrap (2 ^ (k % 64)))))) := by
            refine ⟨k + 1, _, by omega, rfl, hold_on hh HX.out, (hrow.set (k / 64) _).congr fun i _ => ?_, hbw.setCell (Nat.le_refl _) _⟩
            by_cases e : i = k / 64
            · rw [if_pos e, if_pos e, or_bitVc2 _ _ hfl h64, e]
            · rw [if_neg e, if_neg e]
          clear hh hrow hbw
          go_wp2_with fail
          go_roundw
          case rel => first | exact R | ((repeat apply Exists.intro); exact ⟨R, rfl⟩)
          case measure => simp [intOf]; omega
      · have HF := Lib.hid (laid_done hh (.inr (by omega)) hrow (Nat.le_refl _) (by unfold maxLen; omega) hbw)
        clear hh hrow hbw hr
        go_wp2_with fail
        go_ret
        exact HF.out
    · have HF := Lib.hid (laid_done hh (.inl (by omega)) hrow (Nat.le_refl _) (by unfold maxLen; omega) hbw)
      clear hh hrow hbw hr
      go_wp2_with fail
      go_ret
      exact HF.out

end Go.Proofs.Ytokgabijjgndgaa
