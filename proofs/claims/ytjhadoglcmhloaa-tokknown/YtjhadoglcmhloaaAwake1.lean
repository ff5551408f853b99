/-
  What the document tells of chapter 1 holds: awake returns true.
-/
import Derived.Test.YtjhadoglcmhloaaRef1
import Derived.Lib.SlBytesConst
namespace Go.Proofs.Ytjhadoglcmhloaa
open Go.RowKit

/-- What a law's call leaves: it answers true, and nothing that was there has turned. -/
def Yes (w : World) (e : Ending) (w' : World) : Prop := e = .returned (.bool true) ∧ Below w.heap.size w w'

/-- The tokens of a list that is known, one by one. -/
theorem own_slice {w : World} {B n : Nat} {e : TypeId} {v : Value} {vs : List Value} (h : w.ownsRow B e 1 v n vs) : ∃ A c, v = .slice A n c ∧ n ≤ c ∧ c ≤ maxLen ∧ Row w A vs ∧ (A = none → c = 0) := by
  rcases h.2 with ⟨e, h0⟩ | ⟨g, cap, cur, hv, _, _, h1, h2, _⟩
  · subst h0
    subst e
    have hl : vs = [] := List.eq_nil_of_length_eq_zero (by simpa using h.1)
    subst hl
    exact ⟨none, 0, rfl, Nat.le_refl _, Nat.zero_le _, Row.nil _ _, fun _ => rfl⟩
  · subst hv
    exact ⟨_, cap, rfl, h1, h2, Row.of_own h, fun e => by cases e⟩

theorem mode_lines (w : World) : Calls Try.prog 12 #[.string { data := #[108, 105, 110, 101, 115] }] w fun e w' => e = .returned (.tuple #[.int .i64 1, .bool true]) ∧ w = w' := by
  have h := mode_any { data := #[108, 105, 110, 101, 115] } w
  have e : modeOf (ByteArray.toList { data := #[108, 105, 110, 101, 115] }) = (1, true) := by
    rw [ByteArray.toList_eq]
    decide
  rw [e] at h
  exact h

set_option maxHeartbeats 1600000 in
theorem awake_yes (w : World) : Calls Try.prog 9 #[] w (Yes w) := by
  have kc := fun (w : World) (C : Array Value) (n c : Nat) => Lib.run_convert_bytes_const (P := Try.prog) w 27 5 C n c Try.underlying27 Try.underlying5
  have hcut : cut 1 [97, 10, 10, 98] = [[97, 10], [10], [98]] := by decide
  have hjoin : joined [[97, 10], [10], [98]] = [97, 10, 10, 98] := by decide
  have HC := Lib.hid hcut
  have HJ := Lib.hid hjoin
  clear hcut hjoin
  go_enter Try.func9, Try.ntmps9
  go_wp2_with fail
  refine (cut_yes 1 _ _ _ [97, 10, 10, 98] _ rfl (by decide) (by decide) (Row.new w _ _ _) (by decide)).mono ?_
  rintro e w1 ⟨v, vs, rfl, hown, hbs, hb1⟩
  rw [HC.out] at hown hbs
  obtain ⟨A, c, rfl, hlc, hcm, hr, hnil⟩ := own_slice hown
  obtain ⟨g, o, A1, c1, rfl, hcell, h1, h2, h3, h4⟩ := hbs.bss.cell hr (k := 1) (by decide)
  have h3' : Row w1 A1 (bv [10]) := h3
  have cv := conv_any (P := Try.prog) (n := 1) rfl h3' 27 9 5 c1 Try.underlying27 Try.underlying5 Try.underlying9
  go_wp2_with fail
  refine (mode_lines _).mono ?_
  rintro e w' ⟨rfl, rfl⟩
  go_wp2_with fail
  refine (join_any _ _ _ vs [[97, 10], [10], [98]] _ rfl (by decide) hr hbs.bss (by decide)).mono ?_
  rintro e w2 ⟨u, rfl, hu, hb2⟩
  rw [HJ.out] at hu
  obtain ⟨A2, c2, rfl, hlc2, hcm2, hr2, hnil2⟩ := hu.form
  have cv2 := conv_any (P := Try.prog) (n := 4) rfl hr2 27 9 5 c2 Try.underlying27 Try.underlying5 Try.underlying9
  go_wp2_with fail
  refine (is_any 0 _ _ _ [10] _ rfl (by decide) (Row.new w2 _ _ _)).mono ?_
  rintro e w' ⟨rfl, rfl⟩
  have hi : isTok 0 [10] = true := by decide
  rw [hi]
  clear hi
  go_wp2_with fail
  go_ret
  refine ⟨rfl, ?_⟩
  have hs1 := hb1.size
  have hs2 := hb2.size
  simp at hs1
  exact ((((Below.refl _ w).alloc (Nat.le_refl _) _).trans (hb1.mono (by simp))).trans (hb2.mono (by omega))).alloc (by omega) _

end Go.Proofs.Ytjhadoglcmhloaa
