/-
  Words and contracts that the proof leans on.
-/
import Derived.Test.YtgbcdeahiemhoaaM3
import Derived.Test.YtgbcdeahiemhoaaM4
import Derived.Test.YtgbcdeahiemhoaaM8
import Derived.Lib.SliceRun
namespace Go.Proofs.Ytgbcdeahiemhoaa
open Go.RowKit

set_option maxRecDepth 100000 in
set_option maxHeartbeats 1600000 in
theorem clone_big (A : Option Addr) (n c : Nat) (l : List Int) (w : World) (hn : l.length = n) (hb : n ≤ 2147483648) (hnil : A = none → c = 0) (hr : Row w A (iv l)) :
    Calls Try.prog 28 #[.slice A n c] w (MadeI l w) := by
  obtain ⟨i0, hi, hz0, hz1, hz2⟩ := info_parts Try.infoInt
  have qT : ∀ (w : World) (a : Option Addr) (n c n' c' : Nat), (binOp .eql 24 (.slice a n c) (.slice none n' c')).run Try.prog w = .ok (.bool a.isNone) w := fun w a n c n' c' => Lib.run_eql_slice_nil w _ _ a n c n' c' Try.underlying24
  cases A with
  | none =>
    have h0 : l = [] := by
      by_cases h : iv l = []
      · simpa [iv] using h
      · obtain ⟨g, o, e', _⟩ := hr h
        cases e'
    subst h0
    have hc := hnil rfl
    subst hc
    obtain rfl : n = 0 := by simpa using hn.symm
    have HF : Hid (MadeI [] w (.returned (.slice none 0 0)) w) := ⟨_, rfl, World.ownsRow_nil _ _ _ _, Below.refl _ _⟩
    clear hr hn hnil
    go_enter Try.func28, Try.ntmps28
    go_wp2_with fail
    go_ret
    exact HF.out
  | some ad =>
    have HN := Lib.hid hn
    clear hn
    have q1 := hr.alloc (.cells #[] 3)
    have o0 := own_emptyS w 3 1 (B := w.heap.size) (Nat.le_refl _)
    have hs0 : w.heap.size ≤ (w.alloc (.cells #[] 3)).heap.size := by simp
    have B0 : Below w.heap.size w (w.alloc (.cells #[] 3)) := (Below.refl _ _).alloc (Nat.le_refl _) _
    clear hr
    go_enter Try.func28, Try.ntmps28
    go_wp2_with (at_builtin; refine append_row rfl (.tmp 5) (.tmp 6) 24 rfl w.heap.size 3 i0 (.int .i64 0) 8 Try.underlying24 hi hz0 hz1 hz2 rfl _ 0 _ rfl o0 (some ad) n c (iv l) rfl (by rw [iv_length, HN.out]) q1 (fun h => by cases h) (iv_one _) (by unfold maxLen; omega) (by omega) hs0 ?_)
    intro v' w2 h2 h3
    have HF : Hid (MadeI l w (.returned v') w2) := by
      refine ⟨v', rfl, ?_, B0.grown h3 hs0 (fun k e => by simp [Value.ownBlock] at e; omega)⟩
      rw [HN.out]
      exact h2
    clear h2 h3 B0 q1 o0
    go_wp2_with fail
    go_ret
    exact HF.out

theorem clone_any (A : Option Addr) (n c : Nat) (l : List Int) (w : World) (hn : l.length = n) (hb : n ≤ 1048576) (hnil : A = none → c = 0) (hr : Row w A (iv l)) :
    Calls Try.prog 28 #[.slice A n c] w (MadeI l w) := clone_big A n c l w hn (by omega) hnil hr

end Go.Proofs.Ytgbcdeahiemhoaa
