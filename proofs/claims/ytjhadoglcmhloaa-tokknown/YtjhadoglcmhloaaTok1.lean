/-
  Contracts of package tok: what each function does to the world. (Part 1: those that only read.)
-/
import Derived.Test.YtjhadoglcmhloaaRows
import Derived.Test.YtjhadoglcmhloaaPure1
import Derived.Test.YtjhadoglcmhloaaKit
namespace Go.Proofs.Ytjhadoglcmhloaa
open Go.RowKit

theorem ret_int {k : IntKind} {a b : Int} (h : a = b) : Ending.returned (.int k a) = .returned (.int k b) := by rw [h]
theorem ret_bool {a b : Bool} (h : a = b) : Ending.returned (.bool a) = .returned (.bool b) := by rw [h]

/-- What tok.Mode tells of a name, what tok.Name tells of a mode. -/
def modeOf (l : List UInt8) : Int × Bool := if (l == [98, 121, 116, 101, 115]) = true then (0, true) else if (l == [108, 105, 110, 101, 115]) = true then (1, true) else (0, false)
def nameOf (m : Int) : ByteArray := if (m == 0) = true then ⟨#[98, 121, 116, 101, 115]⟩ else if (m == 1) = true then ⟨#[108, 105, 110, 101, 115]⟩ else ⟨#[]⟩

theorem valid_any (m : Int) (w : World) :
    Calls Try.prog 23 #[.int .i64 m] w fun e w' => e = .returned (.bool (m == 0 || m == 1)) ∧ w = w' := by
  by_cases h0 : m = 0
  · subst h0
    go_enter Try.func23, Try.ntmps23
    go_wp2
    go_ret
    exact ⟨rfl, rfl⟩
  · have hb : (m == 0) = false := by simpa using h0
    go_enter Try.func23, Try.ntmps23
    go_wp2
    all_goals go_ret
    all_goals exact ⟨by rw [hb]; simp, rfl⟩

set_option maxHeartbeats 400000 in
theorem tokenEnd_any (m : Int) (A : Option Addr) (n c f : Nat) (l : List UInt8) (w : World) (hn : l.length = n) (hm : n ≤ maxLen) (hf : f ≤ n) (hr : Row w A (bv l)) (hx : m = 0 → f < n) :
    Calls Try.prog 21 #[.int .i64 m, .slice A n c, .int .i64 f] w fun e w' => e = .returned (.int .i64 ((f + tlen m (l.drop f) : Nat) : Int)) ∧ w = w' := by
  subst hn
  unfold maxLen at hm
  by_cases h0 : m = 0
  · subst h0
    have := hx rfl
    clear hx
    go_enter Try.func21, Try.ntmps21
    go_wp2
    go_ret
    exact ⟨ret_int (by simp [tlen]), rfl⟩
  · have hb : (m == 0) = false := by simpa using h0
    have ht : tlen m (l.drop f) = nl (l.drop f) := by simp [tlen, h0]
    rw [ht]
    clear hx ht
    have H0 := Lib.hid h0
    clear h0
    go_enter Try.func21, Try.ntmps21
    go_wp2
    go_loop [7] (fun i => ∃ k : Nat, f ≤ k ∧ k ≤ l.length ∧ i = .int .i64 k ∧ Hid (k + nl (l.drop k) = f + nl (l.drop f))) (fun i => l.length - (intOf i).toNat)
    case atStart => exact ⟨f, Nat.le_refl _, hf, rfl, rfl⟩
    case round =>
      obtain ⟨k, hk1, hk2, rfl, hk⟩ := hrel
      by_cases hlt : k < l.length
      · obtain ⟨g, o, rfl, hc⟩ := hr.byte hlt
        have hs := Lib.hid (nl_at l k hlt)
        by_cases h10 : l[k] = 10
        · have hz : (((l[k].toNat : Nat) : Int) == 10) = true := by rw [h10]; rfl
          have h11 := Lib.hid h10
          clear h10
          go_wp2
          go_ret
          exact ⟨ret_int (by have e1 := hk.out; have e2 := hs.out; rw [if_pos h11.out] at e2; omega), rfl⟩
        · have hz : (((l[k].toNat : Nat) : Int) == 10) = false := by
            rw [beq_eq_false_iff_ne]
            intro e
            apply h10
            apply UInt8.toNat.inj
            have e2 : l[k].toNat = 10 := by omega
            rw [e2]; rfl
          have h11 := Lib.hid h10
          clear h10
          go_wp2
          go_round
          case rel => exact ⟨k + 1, by omega, by omega, by go_num, by have e1 := hk.out; have e2 := hs.out; rw [if_neg h11.out] at e2; show _ = _; omega⟩
          case measure => simp [intOf]; omega
      · have e : k = l.length := by omega
        have hd : l.drop k = [] := by rw [e]; simp
        have hk' : l.length = f + nl (l.drop f) := by have := hk.out; rw [hd] at this; simp only [nl] at this; omega
        clear hk hd e
        have hk := Lib.hid hk'
        clear hk'
        go_wp2
        go_ret
        exact ⟨ret_int (by have := hk.out; omega), rfl⟩

/-- The same where the place is written 0. -/
theorem tokenEnd_0 (m : Int) (A : Option Addr) (n c : Nat) (l : List UInt8) (w : World) (hn : l.length = n) (hm : n ≤ maxLen) (hr : Row w A (bv l)) (hx : m = 0 → 0 < n) :
    Calls Try.prog 21 #[.int .i64 m, .slice A n c, .int .i64 0] w fun e w' => e = .returned (.int .i64 (tlen m l : Int)) ∧ w = w' := by
  have h := tokenEnd_any m A n c 0 l w hn hm (Nat.zero_le _) hr hx
  simpa using h

theorem is_yes (m : Int) (A : Option Addr) (n c : Nat) (l : List UInt8) (w : World) (hn : l.length = n) (hm : n ≤ maxLen) (hr : Row w A (bv l)) (hv : (m == 0 || m == 1) = true) (hp : 0 < n) :
    Calls Try.prog 15 #[.int .i64 m, .slice A n c] w fun e w' => e = .returned (.bool (isTok m l)) ∧ w = w' := by
  subst hn
  have hv' := Lib.hid hv
  clear hv
  have hi : isTok m l = decide ((tlen m l : Int) = (l.length : Int)) := by
    unfold isTok
    rw [hv'.out, Bool.eq_iff_iff]
    simp [hp]
    omega
  rw [hi]
  have hi' := Lib.hid hi
  clear hi
  unfold maxLen at hm
  go_enter Try.func15, Try.ntmps15
  go_wp2_with fail
  refine (valid_any m _).mono ?_
  rintro e w' ⟨rfl, rfl⟩
  rw [hv'.out]
  go_wp2_with fail
  refine (tokenEnd_0 m A _ c l _ rfl (by unfold maxLen; omega) hr (fun _ => by omega)).mono ?_
  rintro e w' ⟨rfl, rfl⟩
  go_wp2_with fail
  go_ret
  exact ⟨by first | rfl | simp, rfl⟩

theorem is_no (m : Int) (A : Option Addr) (n c : Nat) (l : List UInt8) (w : World) (hn : l.length = n) (hm : n ≤ maxLen) (hv : (m == 0 || m == 1) = false ∨ n = 0) :
    Calls Try.prog 15 #[.int .i64 m, .slice A n c] w fun e w' => e = .returned (.bool (isTok m l)) ∧ w = w' := by
  subst hn
  have hi : isTok m l = false := by
    unfold isTok
    rcases hv with h | h
    · rw [h]; simp
    · simp [h]
  rw [hi]
  clear hi
  unfold maxLen at hm
  by_cases h1 : (m == 0 || m == 1) = true
  · have h0 : l.length = 0 := by
      rcases hv with h | h
      · rw [h1] at h; cases h
      · exact h
    clear hv
    rw [h0]
    clear h0
    have H1 := Lib.hid h1
    clear h1
    go_enter Try.func15, Try.ntmps15
    go_wp2_with fail
    refine (valid_any m _).mono ?_
    rintro e w' ⟨rfl, rfl⟩
    rw [H1.out]
    go_wp2_with fail
    go_ret
    exact ⟨rfl, rfl⟩
  · have h2 : (m == 0 || m == 1) = false := by simpa using h1
    clear h1 hv
    have H1 := Lib.hid h2
    clear h2
    go_enter Try.func15, Try.ntmps15
    go_wp2_with fail
    refine (valid_any m _).mono ?_
    rintro e w' ⟨rfl, rfl⟩
    rw [H1.out]
    go_wp2_with fail
    go_ret
    exact ⟨rfl, rfl⟩

/-- tok.Is -/
theorem is_any (m : Int) (A : Option Addr) (n c : Nat) (l : List UInt8) (w : World) (hn : l.length = n) (hm : n ≤ maxLen) (hr : Row w A (bv l)) :
    Calls Try.prog 15 #[.int .i64 m, .slice A n c] w fun e w' => e = .returned (.bool (isTok m l)) ∧ w = w' := by
  by_cases hp : 0 < n
  · by_cases hv : (m == 0 || m == 1) = true
    · exact is_yes m A n c l w hn hm hr hv hp
    · exact is_no m A n c l w hn hm (.inl (by simpa using hv))
  · exact is_no m A n c l w hn hm (.inr (by omega))

theorem count_no (m : Int) (v : Value) (w : World) (hv : (m == 0 || m == 1) = false) :
    Calls Try.prog 11 #[.int .i64 m, v] w fun e w' => e = .returned (.tuple #[.int .i64 0, .int .i64 1]) ∧ w = w' := by
  have hv' := Lib.hid hv
  clear hv
  go_enter Try.func11, Try.ntmps11
  go_wp2_with fail
  refine (valid_any m _).mono ?_
  rintro e w' ⟨rfl, rfl⟩
  rw [hv'.out]
  go_wp2_with fail
  go_ret2
  exact ⟨rfl, rfl⟩

theorem count_yes (m : Int) (A : Option Addr) (n c : Nat) (l : List UInt8) (w : World) (hn : l.length = n) (hm : n ≤ maxLen) (hr : Row w A (bv l)) (hv : (m == 0 || m == 1) = true) :
    Calls Try.prog 11 #[.int .i64 m, .slice A n c] w fun e w' => e = .returned (.tuple #[.int .i64 ((cut m l).length : Int), .int .i64 0]) ∧ w = w' := by
  subst hn
  have hv' := Lib.hid hv
  clear hv
  have hcl := cut_len m l
  unfold maxLen at hm
  go_enter Try.func11, Try.ntmps11
  go_wp2_with fail
  refine (valid_any m _).mono ?_
  rintro e w' ⟨rfl, rfl⟩
  rw [hv'.out]
  go_wp2_with fail
  go_loop [6, 7] (fun q i => ∃ f k : Nat, f ≤ l.length ∧ i = .int .i64 f ∧ q = .int .i64 k ∧ Hid (k + (cut m (l.drop f)).length = (cut m l).length)) (fun _ i => l.length - (intOf i).toNat)
  case atStart => exact ⟨0, 0, Nat.zero_le _, rfl, rfl, by show _ = _; simp⟩
  case round =>
    obtain ⟨f, k, hf, rfl, rfl, hk⟩ := hrel
    by_cases hlt : f < l.length
    · have h1 := tlen_pos (m := m) (drop_ne hlt)
      have h2 : f + tlen m (l.drop f) ≤ l.length := by have := tlen_le (m := m) (drop_ne hlt); rw [List.length_drop] at this; omega
      have hs := Lib.hid (congrArg List.length (cut_at m l f hlt))
      have hk2 : k < 9223372036854775807 := by have := hk.out; have := hs.out; simp at this; omega
      go_wp2_with fail
      refine (tokenEnd_any m A _ c f l _ rfl (by unfold maxLen; omega) (by omega) hr (fun _ => hlt)).mono ?_
      rintro e w' ⟨rfl, rfl⟩
      go_wp2_with fail
      go_round
      case rel => exact ⟨f + tlen m (l.drop f), k + 1, h2, by go_num, by go_num, by have e1 := hk.out; have e2 := hs.out; simp at e2; show _ = _; omega⟩
      case measure => simp [intOf]; omega
    · have hd : l.drop f = [] := List.drop_eq_nil_of_le (by omega)
      have hk' : k = (cut m l).length := by have := hk.out; rw [hd, cut_nil] at this; simpa using this
      clear hk hd
      have hk := Lib.hid hk'
      clear hk'
      go_wp2_with fail
      go_ret2
      exact ⟨by rw [hk.out]; rfl, rfl⟩

/-! ### Names -/
set_option maxHeartbeats 400000 in
theorem mode_any (s : ByteArray) (w : World) :
    Calls Try.prog 12 #[.string s] w fun e w' => e = .returned (.tuple #[.int .i64 (modeOf s.toList).1, .bool (modeOf s.toList).2]) ∧ w = w' := by
  go_enter Try.func12, Try.ntmps12
  go_wp2
  all_goals go_ret2
  all_goals refine ⟨?_, rfl⟩
  all_goals unfold modeOf
  · rw [if_pos (by assumption)]; rfl
  · rw [if_neg (by simp [*]), if_pos (by assumption)]; rfl
  · rw [if_neg (by simp [*]), if_neg (by simp [*])]; rfl

set_option maxHeartbeats 400000 in
theorem refMode_any (s : ByteArray) (w : World) :
    Calls Try.prog 19 #[.string s] w fun e w' => e = .returned (.tuple #[.int .i64 (modeOf s.toList).1, .bool (modeOf s.toList).2]) ∧ w = w' := by
  go_enter Try.func19, Try.ntmps19
  go_wp2
  all_goals go_ret2
  all_goals refine ⟨?_, rfl⟩
  all_goals unfold modeOf
  · rw [if_pos (by assumption)]; rfl
  · rw [if_neg (by simp [*]), if_pos (by assumption)]; rfl
  · rw [if_neg (by simp [*]), if_neg (by simp [*])]; rfl

set_option maxHeartbeats 400000 in
theorem name_any (m : Int) (w : World) :
    Calls Try.prog 14 #[.int .i64 m] w fun e w' => e = .returned (.string (nameOf m)) ∧ w = w' := by
  go_enter Try.func14, Try.ntmps14
  go_wp2
  all_goals go_ret
  all_goals refine ⟨?_, rfl⟩
  all_goals unfold nameOf
  · rw [if_pos (by assumption)]; rfl
  · rw [if_neg (by simp [*]), if_pos (by assumption)]; rfl
  · rw [if_neg (by simp [*]), if_neg (by simp [*])]; rfl

set_option maxHeartbeats 400000 in
theorem refName_any (m : Int) (w : World) :
    Calls Try.prog 20 #[.int .i64 m] w fun e w' => e = .returned (.string (nameOf m)) ∧ w = w' := by
  go_enter Try.func20, Try.ntmps20
  go_wp2
  all_goals go_ret
  all_goals refine ⟨?_, rfl⟩
  all_goals unfold nameOf
  · rw [if_pos (by assumption)]; rfl
  · rw [if_neg (by simp [*]), if_pos (by assumption)]; rfl
  · rw [if_neg (by simp [*]), if_neg (by simp [*])]; rfl

end Go.Proofs.Ytjhadoglcmhloaa
