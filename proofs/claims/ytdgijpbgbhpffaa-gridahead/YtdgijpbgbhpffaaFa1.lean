/-
  Contract of package grid's fillAhead: a row of the table from the row above it.
-/
import Derived.Test.YtdgijpbgbhpffaaFb1
import Derived.BigRegion
namespace Go.Proofs.Ytdgijpbgbhpffaa
open Go.RowKit

def stepA (x : Int) (G F : Nat → Int) (p : Nat × Int) : Nat → Int := fun c => if c = p.1 + 1 then (if x = p.2 then IntKind.i64.wrap (G p.1 + 1) else (if G (p.1 + 1) < F p.1 then F p.1 else G (p.1 + 1))) else F c
/-- The row when k numbers of b are done. -/
def fillA (x : Int) (b : List Int) (G F : Nat → Int) : Nat → Nat → Int
  | 0 => F
  | k + 1 => stepA x G (fillA x b G F k) (k, b[k]?.getD 0)

def FaRel (x : Int) (b : List Int) (h g m : Nat) (G F : Nat → Int) (w : World) (i : Value) (wr : World) : Prop :=
  ∃ k : Nat, k ≤ m ∧ i = .int .i64 (k : Int) ∧ IsRow wr g (m + 1) (fillA x b G F k) ∧ IsRow wr h (m + 1) G ∧ w.grownBy wr (some g)
theorem fa_step {x : Int} {b : List Int} {h g m k : Nat} {G F : Nat → Int} {w wr : World} {y v : Int} (hk : k < m) (hy : b[k]? = some y) (hgh : g ≠ h) (h1 : IsRow wr g (m + 1) (fillA x b G F k)) (h2 : IsRow wr h (m + 1) G) (h3 : w.grownBy wr (some g)) (hv : v = stepA x G (fillA x b G F k) (k, y) (k + 1)) : FaRel x b h g m G F w (.int .i64 ((k + 1 : Nat) : Int)) (wr.setCell ⟨g, k + 1, none⟩ (.int .i64 v)) := by
  refine ⟨k + 1, hk, rfl, ?_, World.rowIs.setOther h2 (by show h ≠ g; exact fun e => hgh e.symm) _, grown_set h3 _ _⟩
  refine World.rowIs.congr (World.rowIs.set h1 (k + 1) _) fun i _ => ?_
  show _ = Value.int .i64 (stepA x G (fillA x b G F k) (k, b[k]?.getD 0) i)
  rw [hy]
  by_cases e : i = k + 1
  · subst e
    rw [if_pos rfl, hv]
    rfl
  · rw [if_neg e]
    congr 1
    exact (if_neg e).symm
theorem FaRel.drew {x : Int} {b : List Int} {h g m : Nat} {G F : Nat → Int} {w wr : World} {i : Value} (hr : FaRel x b h g m G F w i wr) : FaRel x b h g m G F w i wr.drew := by
  obtain ⟨k, h1, h2, h3, h4, h5⟩ := hr
  exact ⟨k, h1, h2, h3, h4, grown_drew h5⟩

set_option maxRecDepth 100000 in
set_option maxHeartbeats 1600000 in
theorem fillAhead_any (x : Int) (A : Option Addr) (m d g h c1 c2 : Nat) (b : List Int) (G F : Nat → Int) (w0 w : World) (hm : b.length = m) (hm' : m ≤ 1048576) (hb : Row w0 A (iv b)) (h0 : Below w0.heap.size w0 w) (hg0 : w0.heap.size ≤ g) (hgh : g ≠ h) (rG : IsRow w h (m + 1) G) (rF : IsRow w g (m + 1) F) :
    Calls Try.prog 31 #[.int .i64 x, .slice A m d, .slice (some ⟨h, 0, none⟩) (m + 1) c1, .slice (some ⟨g, 0, none⟩) (m + 1) c2] w fun e w' => (∃ v, e = .returned v) ∧ IsRow w' g (m + 1) (fillA x b G F m) ∧ w.grownBy w' (some g) := by
  have HM := Lib.hid hm
  clear hm
  have hs := h0.size
  go_enter Try.func31, Try.ntmps31
  go_wp2_with fail
  go_loopw [12] (fun i wr => FaRel x b h g m G F w i wr) (fun i _ => m - (intOf i).toNat)
  case atStart => exact ⟨0, Nat.zero_le _, rfl, rF, rG, World.grownBy.refl _ _⟩
  case round =>
    clear rF rG
    obtain ⟨k, hk, rfl, h1, h2, h3⟩ := hrel
    by_cases hlt : k < m
    · obtain ⟨gb, ob, rfl, hc⟩ := (hb.below (h0.grown h3 hs (fun r e => by cases e; exact hg0))).int (k := k) (by rw [HM.out]; exact hlt)
      have HY : Hid (b[k]? = some (b[k]'(by rw [HM.out]; exact hlt))) := List.getElem?_eq_getElem _
      generalize b[k]'(by rw [HM.out]; exact hlt) = y at *
      have R := Lib.hid (fun v hv => fa_step (v := v) hlt HY.out hgh h1 h2 h3 hv)
      have t1 := World.rowIs.cell h2 (i := k) (by omega)
      have t2 := World.rowIs.cell h2 (i := k + 1) (by omega)
      have t3 := World.rowIs.cell h1 (i := k) (by omega)
      have t4 := World.rowIs.cell h1 (i := k + 1) (by omega)
      have t5 := World.rowIs.frozen h1 (k + 1)
      clear h1 h2 h3 hb h0
      generalize fillA x b G F k = F' at *
      by_cases heq : x = y
      · subst heq
        have HV : Hid (stepA x G F' (k, x) (k + 1) = IntKind.i64.wrap (G k + 1)) := by show _ = _; simp [stepA]
        go_wp2_with fail
        go_roundw
        case rel => exact R.out _ (by rw [HV.out]; first | rfl | simp [wrap64, IntKind.wrap_i64] | (rw [IntKind.wrap_i64]; rfl))
        case measure => simp [intOf]; omega
      · have hz : (x == y) = false := by simpa using heq
        have HV : Hid (stepA x G F' (k, y) (k + 1) = if G (k + 1) < F' k then F' k else G (k + 1)) := by show _ = _; simp [stepA, heq]
        clear heq
        by_cases hXY : G (k + 1) < F' k
        · rw [if_pos hXY] at HV
          go_wp2_with fail
          go_region
          go_wp2_with fail
          go_roundw
          case rel => exact (R.out _ (by rw [HV.out])).drew
          case measure => simp [intOf]; omega
        · rw [if_neg hXY] at HV
          go_wp2_with fail
          go_region
          go_wp2_with fail
          go_roundw
          case rel => exact (R.out _ (by rw [HV.out])).drew
          case measure => simp [intOf]; omega
    · obtain rfl : k = m := by omega
      have HF := Lib.hid h1
      have HG := Lib.hid h3
      clear h1 h2 h3
      go_wp2_with fail
      go_end0
      exact ⟨⟨_, rfl⟩, HF.out, HG.out⟩

end Go.Proofs.Ytdgijpbgbhpffaa
