/-
  slices.Grow, slices.Concat over tokens; names.Two; the reference's Two; few.
-/
import Derived.Test.YtjfiokcgmmmboaaNm7
import Derived.Test.YtjfiokcgmmmboaaNm3b
import Derived.Lib.AppendZeros
namespace Go.Proofs.Ytjfiokcgmmmboaa
open Go.RowKit
open Go.Lib (compareBytes)

/-- What slices.Grow leaves of nil: room. -/
def Room (w : World) (e : Ending) (w' : World) : Prop := ∃ v, e = .returned v ∧ w'.ownsRow w.heap.size 24 1 v 0 [] ∧ Below w.heap.size w w'

set_option maxHeartbeats 400000 in
theorem grow_nil (n : Nat) (w : World) (hb : n ≤ 2147483648) : Calls Try.prog 32 #[.slice none 0 0, .int .i64 n] w (Room w) := by
  obtain ⟨i0, hi, hz0, hz1, hz2⟩ := info_parts Try.infoBs
  by_cases h0 : n = 0
  · subst h0
    go_enter Try.func32, Try.ntmps32
    go_wp2_with fail
    go_ret
    exact ⟨_, rfl, World.ownsRow_nil _ _ _ _, Below.refl _ _⟩
  · have hr := Lib.run_append_nil_zeros (P := Try.prog) w 22 3 22 24 i0 (.slice none 0 0) .i64 .i64 Try.underlying22 Try.underlying3 hi hz0 n (by omega) (by omega) (by omega) (by rw [hz2]; omega)
    have HR := Lib.hid hr
    clear hr
    have h1 : (0 : Int) < (n : Int) := by omega
    have hgc := grownCap_ge w n 0 24
    have hgm := grownCap_le_maxLen w n 0 24 (by unfold maxLen; omega)
    go_enter Try.func32, Try.ntmps32
    go_wp2_with (at_builtin; refine Lib.wpList_append_run _ rfl (.tmp 20) (.tmp 21) 22 3 rfl (.slice none 0 0) (.int .i64 n) rfl rfl _ _ HR.out ?_)
    have R : Room w (.returned (.slice (some ⟨w.heap.size, 0, none⟩) 0 (grownCap w n 0 24))) (w.alloc (.cells (Builtin.zeroCells #[Value.slice none 0 0] n ++ Builtin.zeroCells #[Value.slice none 0 0] (grownCap w n 0 24 - n)) 24)).drew := by
      refine ⟨_, rfl, World.ownsRow_made w.drew _ _ (Nat.le_refl _) hgm ?_, (below_drew (Below.refl _ w)).alloc (Nat.le_refl _) _⟩
      rw [Array.size_append, size_zeroCells, size_zeroCells]
      simp
      omega
    clear HR
    generalize grownCap w n 0 24 = G at *
    go_wp2_with fail
    go_ret
    exact R

/-- What slices.Concat leaves. -/
def Joined2 (n : Nat) (us : List Value) (w : World) (e : Ending) (w' : World) : Prop := ∃ v, e = .returned v ∧ w'.ownsRow w.heap.size 24 1 v n us ∧ Below w.heap.size w w'

set_option maxRecDepth 100000 in
set_option maxHeartbeats 1600000 in
theorem concat_any (g : Nat) (A A' : Option Addr) (n c n' c' : Nat) (vs us : List Value) (w : World) (hn : vs.length = n) (hn' : us.length = n') (hb : n ≤ 2147483648) (hb' : n' ≤ 1073741824) (hb2 : n ≤ 1073741824)
    (hc0 : w.cell? ⟨g, 0, none⟩ = some (.slice A n c)) (hc1 : w.cell? ⟨g, 1, none⟩ = some (.slice A' n' c')) (hr : Row w A vs) (hr' : Row w A' us) (hnil : A = none → c = 0) (hnil' : A' = none → c' = 0) (h1 : ∀ u ∈ vs, u.oneCell' = true) (h1' : ∀ u ∈ us, u.oneCell' = true) :
    Calls Try.prog 27 #[.slice (some ⟨g, 0, none⟩) 2 2] w (Joined2 (n + n') (vs ++ us) w) := by
  obtain ⟨i0, hi, hz0, hz1, hz2⟩ := info_parts Try.infoBs
  have HN := Lib.hid hn
  have HN' := Lib.hid hn'
  clear hn hn'
  have hp0 : ¬ ((n : Int) < 0) := by omega
  have hp1 : ¬ ((n : Int) + (n' : Int) < 0) := by omega
  go_enter Try.func27, Try.ntmps27
  go_wp2_with fail
  refine wp_loop_rounds 3 ?_
  rw [rounds_succ]
  go_wp2_with fail
  rw [rounds_succ]
  go_wp2_with fail
  rw [rounds_succ]
  go_wp2_with fail
  have hG := grow_nil (n + n') w (by omega)
  rw [Int.natCast_add] at hG
  refine hG.mono ?_
  rintro e w1 ⟨v, rfl, hown, hb1⟩
  have e0 : w1.cell? ⟨g, 0, none⟩ = some (.slice A n c) := (hb1.cell (p := ⟨g, 0, none⟩) (World.block_lt_of_cell? _ _ hc0)).trans hc0
  have e1 : w1.cell? ⟨g, 1, none⟩ = some (.slice A' n' c') := (hb1.cell (p := ⟨g, 1, none⟩) (World.block_lt_of_cell? _ _ hc1)).trans hc1
  have hbs1 := hb1.size
  go_wp2_with fail
  refine wp_loop_rounds 3 ?_
  rw [rounds_succ]
  go_wp2_with (at_builtin; refine append_row rfl (.tmp 31) (.tmp 32) 22 rfl w.heap.size 24 i0 (.slice none 0 0) 24 Try.underlying22 hi hz0 hz1 hz2 rfl _ _ _ rfl hown A n c vs rfl HN.out (hr.below hb1) hnil h1 (by unfold maxLen; omega) (by omega) hbs1 ?_)
  intro v2 w2 hown2 hg2
  have hb2' : Below w.heap.size w w2 := hb1.grown hg2 hbs1 (fun x hx => (hown.lt x hx).1)
  have f1 : w2.cell? ⟨g, 1, none⟩ = some (.slice A' n' c') := (hb2'.cell (p := ⟨g, 1, none⟩) (World.block_lt_of_cell? _ _ hc1)).trans hc1
  have hbs2 := hb2'.size
  clear hown hg2 e0 e1
  go_wp2_with fail
  rw [rounds_succ]
  go_wp2_with (at_builtin; refine append_row rfl (.tmp 31) (.tmp 32) 22 rfl w.heap.size 24 i0 (.slice none 0 0) 24 Try.underlying22 hi hz0 hz1 hz2 rfl _ _ _ rfl hown2 A' n' c' us rfl HN'.out (hr'.below hb2') hnil' h1' (by unfold maxLen; omega) (by omega) hbs2 ?_)
  intro v3 w3 hown3 hg3
  have hb3 : Below w.heap.size w w3 := hb2'.grown hg3 hbs2 (fun x hx => (hown2.lt x hx).1)
  have R : Joined2 (n + n') (vs ++ us) w (.returned v3) w3 := ⟨_, rfl, by simpa using hown3, hb3⟩
  clear hown2 hg3 hown3 f1
  go_wp2_with fail
  rw [rounds_succ]
  go_wp2_with fail
  go_ret
  exact R

end Go.Proofs.Ytjfiokcgmmmboaa
