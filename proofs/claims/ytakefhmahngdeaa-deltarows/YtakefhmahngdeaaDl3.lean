/-
  Contracts of package delta's part, Key, Put.
-/
import Derived.Test.YtakefhmahngdeaaDl2
namespace Go.Proofs.Ytakefhmahngdeaa
open Go.RowKit

theorem size_byte (w : World) : (sizeOf (Try.prog.elem 23)).run Try.prog w = .ok 1 w := by
  rfl
/-- d[lo:hi] of bytes. -/
theorem sliceB (A : Option Addr) (n c lo hi : Nat) (h1 : lo ≤ hi) (h2 : hi ≤ c) :
    ∃ A' c', (∀ w, (Instr.sliceAt 23 (.slice A n c) (some (.int .i64 (lo : Int))) (some (.int .i64 (hi : Int))) none).run Try.prog w = .ok (.slice A' (hi - lo) c') w) ∧ hi - lo ≤ c' ∧ (lo < c → A' = A.map (·.add lo)) := by
  refine ⟨if c = lo then A else A.map (·.add (lo * 1)), c - lo, fun w => ?_, by omega, fun h => ?_⟩
  · rw [run_sliceAt_slice w 23 _ _ _ _ Try.underlying23, run_slice_lh w 23 A n c Try.underlying23 .i64 .i64 (lo : Int) (hi : Int) (by omega) (by omega) (by omega), size_byte]
    simp [Result.andThen, sliced]
  · rw [if_neg (by omega), Nat.mul_one]

/-- What part leaves. -/
def PartOf (A : Option Addr) (n : Nat) (at' t : Int) (w : World) (e : Ending) (w' : World) : Prop := ∃ A' c', e = .returned (.slice A' (prt n at' t) c') ∧ prt n at' t ≤ c' ∧ (0 < prt n at' t → A' = A.map (·.add at'.toNat)) ∧ w = w'
theorem part_none (A : Option Addr) {n : Nat} {at' t : Int} (w : World) (h : prt n at' t = 0) : PartOf A n at' t w (.returned (.slice none 0 0)) w :=
  ⟨none, 0, by rw [h], by omega, fun h' => by omega, rfl⟩

set_option maxHeartbeats 1600000 in
theorem part_any (A : Option Addr) (n c : Nat) (at' t : Int) (w : World) (hb : n ≤ 1048576) (hc : n ≤ c) (h1 : I64 at') (h2 : I64 t) :
    Calls Try.prog 23 #[.slice A n c, .int .i64 at', .int .i64 t] w (PartOf A n at' t w) := by
  unfold I64 at h1 h2
  by_cases hin : 0 ≤ at' ∧ at' ≤ n ∧ 1 ≤ t ∧ t ≤ 3
  · obtain ⟨g1, g2, g3, g4⟩ := hin
    have HP : Hid (prt n at' t = min t.toNat (n - at'.toNat)) := prt_is ⟨g1, g3, g4⟩
    obtain ⟨a, rfl⟩ := Int.eq_ofNat_of_zero_le g1
    obtain ⟨s, rfl⟩ := Int.eq_ofNat_of_zero_le (by omega : 0 ≤ t)
    have g2' : a ≤ n := by omega
    simp only [Int.toNat_natCast] at HP
    obtain ⟨m, hm⟩ : ∃ m, a + min s (n - a) = m := ⟨_, rfl⟩
    obtain ⟨A', c', hs, hc', hA⟩ := sliceB A n c a m (by omega) (by omega)
    have HF : Hid (PartOf A n a s w (.returned (.slice A' (m - a) c')) w) := by
      have e : prt n a s = m - a := by rw [HP.out]; omega
      refine ⟨A', c', by rw [e], by omega, fun h => ?_, rfl⟩
      exact hA (by omega)
    have em : (if (n : Int) < (a : Int) + (s : Int) then (n : Int) else (a : Int) + (s : Int)) = (m : Int) := by split <;> omega
    clear hA hc' HP hm
    go_enter Try.func23, Try.ntmps23
    go_wp2_with fail
    go_ret
    exact HF.out
  · have HF : Hid (PartOf A n at' t w (.returned (.slice none 0 0)) w) := part_none A w (by
      by_cases h : 0 ≤ at' ∧ 1 ≤ t ∧ t ≤ 3
      · rw [prt_is h]; omega
      · exact prt_out h)
    by_cases g1 : at' < 0
    · go_enter Try.func23, Try.ntmps23
      go_wp2_with fail
      go_ret
      exact HF.out
    · by_cases g2 : (n : Int) < at'
      · go_enter Try.func23, Try.ntmps23
        go_wp2_with fail
        go_ret
        exact HF.out
      · by_cases g3 : t < 1
        · go_enter Try.func23, Try.ntmps23
          go_wp2_with fail
          go_ret
          exact HF.out
        · have g4 : 3 < t := by omega
          go_enter Try.func23, Try.ntmps23
          go_wp2_with fail
          go_ret
          exact HF.out

theorem or_key {K k : Nat} (hk : k < 3) (h : K < 2 ^ k) : bits .or .i64 (K : Int) (wrap64 (2 ^ k)) = ((K + 2 ^ k : Nat) : Int) := by
  have : ∀ k : Nat, k < 3 → ∀ K : Nat, K < 2 ^ k → bits .or .i64 (K : Int) (wrap64 (2 ^ k)) = ((K + 2 ^ k : Nat) : Int) := by decide +kernel
  exact this k hk K h
theorem prt_room {n : Nat} {at' t : Int} {k : Nat} (h : k < prt n at' t) : at'.toNat + k < n := by
  have := prt_in (n := n) (at' := at') (t := t) (by omega)
  omega

/-- The head of a round of Key. -/
def KyRel (d : List UInt8) (s m : Nat) (w : World) (v i : Value) (wr : World) : Prop := ∃ k : Nat, k ≤ m ∧ i = .int .i64 (k : Int) ∧ v = .int .i64 (keyN d s k : Nat) ∧ wr = w

set_option maxRecDepth 100000 in
set_option maxHeartbeats 1600000 in
theorem pkey_any (A : Option Addr) (n c : Nat) (d : List UInt8) (at' t : Int) (w : World) (hn : d.length = n) (hb : n ≤ 1048576) (hc : n ≤ c) (h1 : I64 at') (h2 : I64 t) (hr : Row w A (bv d)) :
    Calls Try.prog 13 #[.slice A n c, .int .i64 at', .int .i64 t] w fun e w' => e = .returned (.int .i64 (keyL d at' t : Nat)) ∧ w = w' := by
  have hp := part_any A n c at' t w hb hc h1 h2
  have HM := Lib.hid (fun k => prt_room (n := n) (at' := at') (t := t) (k := k))
  have hm3 := prt_le n at' t
  have HE : Hid (keyL d at' t = keyN d at'.toNat (prt n at' t)) := by show _ = _; unfold keyL; rw [hn]
  rw [HE.out]
  unfold PartOf at hp
  clear HE
  generalize prt n at' t = m at *
  have HP := Lib.hid hp
  have HN := Lib.hid hn
  clear hn hp
  go_enter Try.func13, Try.ntmps13
  go_wp2_with fail
  refine HP.out.mono ?_
  rintro e w' ⟨A', c', rfl, _, hA, rfl⟩
  have HA := Lib.hid hA
  clear hA HP
  go_wp2_with fail
  go_loopw [7, 15] (fun v i wr => KyRel d at'.toNat m w v i wr) (fun _ i _ => m - (intOf i).toNat)
  case atStart => exact ⟨0, Nat.zero_le _, rfl, rfl, rfl⟩
  case round =>
    obtain ⟨k, hk, rfl, rfl, rfl⟩ := hrel
    by_cases hlt : k < m
    · obtain ⟨g, o, rfl, hcc⟩ := hr.byte (k := at'.toNat + k) (by rw [HN.out]; exact HM.out k hlt)
      have HX : Hid (bget d (at'.toNat + k) = d[at'.toNat + k]'(by rw [HN.out]; exact HM.out k hlt)) := bget_of (List.getElem?_eq_getElem _)
      generalize d[at'.toNat + k]'(by rw [HN.out]; exact HM.out k hlt) = b at *
      have e := HA.out (by omega)
      subst e
      rw [← Nat.add_assoc] at hcc
      have hK := keyN_lt d at'.toNat k
      have HK : Hid (keyN d at'.toNat (k + 1) = if b = 0 then keyN d at'.toNat k else keyN d at'.toNat k + 2 ^ k) := by show keyN d at'.toNat (k + 1) = _; rw [keyN, HX.out]
      generalize keyN d at'.toNat k = K at *
      clear hr HX HM
      by_cases hz : b = 0
      · have e1 : ((b.toNat : Int) != 0) = false := by subst hz; rfl
        rw [if_pos hz] at HK
        clear hz
        go_wp2_with fail
        go_roundw
        case rel => exact ⟨k + 1, hlt, by go_num, by rw [HK.out], rfl⟩
        case measure => simp [intOf]; omega
      · have e1 := byte_ne hz
        rw [if_neg hz] at HK
        clear hz
        go_wp2_with fail
        go_roundw
        case rel =>
          refine ⟨k + 1, hlt, by go_num, ?_, rfl⟩
          rw [HK.out, or_key (by omega) hK]
        case measure => simp [intOf]; omega
    · obtain rfl : k = m := by omega
      clear hr
      go_wp2_with fail
      go_ret
      exact ⟨rfl, rfl⟩

end Go.Proofs.Ytakefhmahngdeaa
