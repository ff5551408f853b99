/-
  Package vec over the landed code: And, Or.
-/
import Derived.Test.YthmfolekohomiaaVp1
namespace Go.Proofs.Ythmfolekohomiaa
open Go.RowKit

/-- A row of words that is told word by word, as new words with such bits. -/
theorem made_of {W T : Nat} {F : Nat → Nat} {g : Nat → Bool} {w wr : World} (hF : ∀ k, k < W → F k < 18446744073709551616) (hg : ∀ j, j < 64 * W → (F (j / 64)).testBit (j % 64) = g j)
    (hr : wr.rowIs T 28 W (fun k => .int .u64 (F k : Nat))) (hT : w.heap.size ≤ T) (hW : W ≤ maxLen) (hb : Below w.heap.size w wr) :
    MadeV W g w (.returned (.slice (some ⟨T, 0, none⟩) W W)) wr := by
  refine ⟨_, (List.range W).map F, rfl, by simp, ?_, fun j => ?_, ?_, hb⟩
  · intro u hu
    obtain ⟨k, hk, rfl⟩ := List.mem_map.1 hu
    exact hF k (List.mem_range.1 hk)
  · unfold bt
    rw [List.getElem?_map]
    by_cases hj : j / 64 < W
    · rw [List.getElem?_range hj, decide_eq_true (show j < 64 * W by omega), Bool.true_and, ← hg j (by omega)]
      rfl
    · rw [List.getElem?_eq_none (by simp; omega), decide_eq_false (by omega), Bool.false_and]
      simp
  · have := own_rowIs hr hT hW
    simpa [uv, List.map_map, Function.comp_def] using this

/-- The head of a round: k words are told. -/
def WRel (W : Nat) (F : Nat → Nat) (w : World) (i : Value) (wr : World) : Prop :=
  ∃ k : Nat, k ≤ W ∧ i = .int .i64 (k : Int) ∧ wr.rowIs w.heap.size 28 W (fun j => .int .u64 ((if j < k then F j else 0 : Nat) : Int)) ∧ Below w.heap.size w wr
theorem wrel_start {W : Nat} {F : Nat → Nat} {w wr : World} (hr : wr.rowIs w.heap.size 28 W (fun _ => .int .u64 0)) (hb : Below w.heap.size w wr) : WRel W F w (.int .i64 0) wr :=
  ⟨0, Nat.zero_le _, rfl, hr.congr fun i _ => by rw [if_neg (Nat.not_lt_zero _)]; rfl, hb⟩
theorem wrel_next {W : Nat} {F : Nat → Nat} {w wr : World} {k : Nat} (hk : k < W) (hr : wr.rowIs w.heap.size 28 W (fun j => .int .u64 ((if j < k then F j else 0 : Nat) : Int))) (hb : Below w.heap.size w wr) {z : Int} (hz : z = (F k : Nat)) :
    WRel W F w (.int .i64 (k + 1 : Nat)) (wr.setCell ⟨w.heap.size, k, none⟩ (.int .u64 z)) := by
  refine ⟨k + 1, by omega, rfl, (hr.set k _).congr fun i _ => ?_, hb.setCell (Nat.le_refl _) _⟩
  subst hz
  by_cases e : i = k
  · rw [if_pos e, if_pos (by omega), e]
  · rw [if_neg e]
    by_cases g : i < k
    · rw [if_pos g, if_pos (by omega)]
    · rw [if_neg g, if_neg (by omega)]
theorem wrel_done {W : Nat} {F : Nat → Nat} {g : Nat → Bool} {w wr : World} {k : Nat} (hk : ¬ k < W) (hW : W ≤ 16384) (hF : ∀ k, k < W → F k < 18446744073709551616) (hg : ∀ j, j < 64 * W → (F (j / 64)).testBit (j % 64) = g j)
    (hr : wr.rowIs w.heap.size 28 W (fun j => .int .u64 ((if j < k then F j else 0 : Nat) : Int))) (hb : Below w.heap.size w wr) : MadeV W g w (.returned (.slice (some ⟨w.heap.size, 0, none⟩) W W)) wr :=
  made_of hF hg (hr.congr fun i h => by rw [if_pos (by omega)]) (Nat.le_refl _) (by unfold maxLen; omega) hb
theorem Row.wrel {w wr : World} {A : Option Addr} {us : List Value} (h : Row w A us) (hb : Below w.heap.size w wr) : Row wr A us := h.below hb

set_option maxRecDepth 100000 in
set_option maxHeartbeats 1600000 in
theorem por : Op2OK 21 (fun x y j => bt x j || bt y j) := by
  intro A B n m c d x y w hn hm hb hb' hc hcm hd hdm hr hs hx hy
  have HN := Lib.hid hn
  have HM := Lib.hid hm
  obtain ⟨W, hW⟩ : ∃ W, max n m = W := ⟨_, rfl⟩
  have hWl : W ≤ 16384 := by omega
  have HZ := Lib.hid (pzeros A B n m c d W w hb hb' hW)
  rw [hW]
  clear hn hm hW hc hcm hd hdm
  have HD := Lib.hid (fun (k : Nat) (wr : World) (hk : ¬ k < W) => wrel_done (W := W) (F := fun k => wd x k ||| wd y k) (g := fun j => bt x j || bt y j) (w := w) (wr := wr) hk hWl (fun k _ => Nat.or_lt_two_pow (n := 64) (wd_lt hx k) (wd_lt hy k)) (fun j _ => by rw [Nat.testBit_or]; rfl))
  have HNX := Lib.hid (fun (k : Nat) (wr : World) (hk : k < W) => wrel_next (W := W) (F := fun k => wd x k ||| wd y k) (w := w) (wr := wr) (k := k) hk)
  go_enter Try.func21, Try.ntmps21
  go_wp2_with fail
  refine HZ.out.mono ?_
  rintro e w1 ⟨rfl, hT, hB⟩
  clear HZ
  go_wp2_with fail
  go_loopw [12] (fun i wr => WRel W (fun k => wd x k ||| wd y k) w i wr) (fun i _ => W - (intOf i).toNat)
  case atStart => exact wrel_start hT hB
  case round =>
    clear hT hB
    obtain ⟨k, hk, rfl, hrow, hbw⟩ := hrel
    by_cases hlt : k < W
    · have t1 := hrow.cell hlt
      have t2 := hrow.frozen k
      have R := HNX.out k wr hlt hrow hbw (u64_or_nat _ _ (wd_lt hx k) (wd_lt hy k))
      have rx := hr.below hbw
      have ry := hs.below hbw
      clear hrow hbw HD HNX
      go_wp2_with fail
      refine (pword A n c k x wr HN.out rx).mono ?_
      rintro e w2 ⟨rfl, rfl⟩
      go_wp2_with fail
      refine (pword B m d k y wr HM.out ry).mono ?_
      rintro e w2 ⟨rfl, rfl⟩
      generalize wd x k = u at *
      generalize wd y k = v at *
      go_wp2_with fail
      go_roundw
      case rel => first | exact R | ((repeat apply Exists.intro); exact ⟨R, rfl⟩)
      case measure => simp [intOf]; omega
    · have HF := Lib.hid (HD.out k wr hlt hrow hbw)
      clear hrow hbw HD HNX
      go_wp2_with fail
      go_ret
      exact HF.out

end Go.Proofs.Ythmfolekohomiaa
