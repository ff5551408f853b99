/-
  Contracts of the reference's Key, Put.
-/
import Derived.Test.YtakefhmahngdeaaDl4
import Derived.Test.YtakefhmahngdeaaKnK
namespace Go.Proofs.Ytakefhmahngdeaa
open Go.RowKit

theorem prt_lt {n a s k : Nat} (h1 : 1 ≤ s) (h3 : s ≤ 3) (ha : a ≤ 9223372036854775807) : k < prt n a s ↔ k < s ∧ a + k < n := by
  have := ha
  rw [prt_is ⟨by omega, by omega, by omega⟩, Int.toNat_natCast, Int.toNat_natCast]
  omega

theorem add_key {K k : Nat} (hk : k < 3) (h : K < 2 ^ k) : wrap64 ((K : Int) + wrap64 (2 ^ k)) = ((K + 2 ^ k : Nat) : Int) := by
  have : ∀ k : Nat, k < 3 → ∀ K : Nat, K < 2 ^ k → wrap64 ((K : Int) + wrap64 (2 ^ k)) = ((K + 2 ^ k : Nat) : Int) := by decide +kernel
  exact this k hk K h

set_option maxRecDepth 100000 in
set_option maxHeartbeats 1600000 in
theorem rkey_any (A : Option Addr) (n c : Nat) (d : List UInt8) (at' t : Int) (w : World) (hn : d.length = n) (hb : n ≤ 1048576) (h1 : I64 at') (h2 : I64 t) (hr : Row w A (bv d)) :
    Calls Try.prog 18 #[.slice A n c, .int .i64 at', .int .i64 t] w fun e w' => e = .returned (.int .i64 (keyL d at' t : Nat)) ∧ w = w' := by
  have HE : Hid (keyL d at' t = keyN d at'.toNat (prt n at' t)) := by show _ = _; unfold keyL; rw [hn]
  rw [HE.out]
  clear HE
  have HN := Lib.hid hn
  clear hn
  unfold I64 at h1 h2
  by_cases hin : 0 ≤ at' ∧ 1 ≤ t ∧ t ≤ 3
  · obtain ⟨g1, g3, g4⟩ := hin
    obtain ⟨a, rfl⟩ := Int.eq_ofNat_of_zero_le g1
    obtain ⟨s, rfl⟩ := Int.eq_ofNat_of_zero_le (by omega : 0 ≤ t)
    have HL := Lib.hid (fun k => prt_lt (n := n) (a := a) (s := s) (k := k) (by omega) (by omega) (by omega))
    rw [Int.toNat_natCast]
    generalize prt n a s = m at *
    go_enter Try.func18, Try.ntmps18
    go_wp2_with fail
    go_loopw [7, 8] (fun v i wr => KyRel d a m w v i wr) (fun _ i _ => m - (intOf i).toNat)
    case atStart => exact ⟨0, Nat.zero_le _, rfl, rfl, rfl⟩
    case round =>
      obtain ⟨k, hk, rfl, rfl, rfl⟩ := hrel
      by_cases hlt : k < m
      · obtain ⟨l1, l2⟩ := (HL.out k).1 hlt
        obtain ⟨g, o, rfl, hcc⟩ := hr.byte (k := a + k) (by rw [HN.out]; exact l2)
        have HX : Hid (bget d (a + k) = d[a + k]'(by rw [HN.out]; exact l2)) := bget_of (List.getElem?_eq_getElem _)
        generalize d[a + k]'(by rw [HN.out]; exact l2) = b at *
        have hK := keyN_lt d a k
        have HK : Hid (keyN d a (k + 1) = if b = 0 then keyN d a k else keyN d a k + 2 ^ k) := by show keyN d a (k + 1) = _; rw [keyN, HX.out]
        generalize keyN d a k = K at *
        have z1 : (a : Int) < (n : Int) - (k : Int) := by omega
        obtain ⟨ak, hak⟩ : ∃ x, a + k = x := ⟨_, rfl⟩
        have ew : IntKind.i64.wrap ((a : Int) + (k : Int)) = (ak : Int) := by rw [IntWalk.i64_in _ (by omega)]; omega
        rw [hak] at hcc
        clear hr HX HL
        by_cases hz : b = 0
        · have e1 : ((b.toNat : Int) != 0) = false := by subst hz; rfl
          rw [if_pos hz] at HK
          clear hz
          go_wp2_with fail
          go_roundw
          case rel => exact ⟨k + 1, hlt, by go_num, by rw [HK.out], rfl⟩
          case measure => simp [intOf]; omega
        · have e1 := byte_ne hz
          rw [if_neg hz] at HK
          clear hz
          go_wp2_with fail
          go_roundw
          case rel =>
            refine ⟨k + 1, hlt, by go_num, ?_, rfl⟩
            rw [HK.out, add_key (by omega) hK]
          case measure => simp [intOf]; omega
      · obtain rfl : k = m := by omega
        have hnot : ¬ (k < s ∧ a + k < n) := fun h => hlt ((HL.out k).2 h)
        clear hr HL
        by_cases l1 : k < s
        · have z1 : ¬ (a : Int) < (n : Int) - (k : Int) := by omega
          go_wp2_with fail
          go_ret
          exact ⟨rfl, rfl⟩
        · go_wp2_with fail
          go_ret
          exact ⟨rfl, rfl⟩
  · have e0 := prt_out (n := n) hin
    rw [e0]
    clear e0 hr
    by_cases g1 : at' < 0
    · go_enter Try.func18, Try.ntmps18
      go_wp2_with fail
      go_ret
      exact ⟨rfl, rfl⟩
    · by_cases g3 : t < 1
      · go_enter Try.func18, Try.ntmps18
        go_wp2_with fail
        go_ret
        exact ⟨rfl, rfl⟩
      · have g4 : 3 < t := by omega
        go_enter Try.func18, Try.ntmps18
        go_wp2_with fail
        go_ret
        exact ⟨rfl, rfl⟩

/-- The head of a round of Put. -/
def PvRel (d : List UInt8) (s : Nat) (key : Int) (v : Value) (n m : Nat) (w : World) (i : Value) (wr : World) : Prop :=
  ∃ k : Nat, k ≤ m ∧ i = .int .i64 (k : Int) ∧ wr.ownsRow w.heap.size 5 1 v n (bv (putN d s key k)) ∧ Below w.heap.size w wr

set_option maxRecDepth 100000 in
set_option maxHeartbeats 1600000 in
theorem rput_any (A : Option Addr) (n c : Nat) (d : List UInt8) (at' t key : Int) (w : World) (hn : d.length = n) (hb : n ≤ 1048576) (h1 : I64 at') (h2 : I64 t) (hr : Row w A (bv d)) (hnil : A = none → c = 0) :
    Calls Try.prog 19 #[.slice A n c, .int .i64 at', .int .i64 t, .int .i64 key] w (MadeB (putL d at' t key) w) := by
  obtain ⟨i0, hi, hz0, hz1, hz2⟩ := info_parts Try.infoU8
  have HE : Hid (putL d at' t key = putN d at'.toNat key (prt n at' t)) := by show _ = _; unfold putL; rw [hn]
  rw [HE.out]
  clear HE
  have HN := Lib.hid hn
  clear hn
  unfold I64 at h1 h2
  have HNil := Lib.hid hnil
  clear hnil
  have o0 := own_empty w 5
  have q1 : Row (w.alloc (.cells #[] 5)) A (bv d) := hr.alloc _
  have b1 := below_a1 w (.cells #[] 5)
  have hs0 := b1.size
  by_cases hin : 0 ≤ at' ∧ 1 ≤ t ∧ t ≤ 3
  · obtain ⟨g1, g3, g4⟩ := hin
    obtain ⟨a, rfl⟩ := Int.eq_ofNat_of_zero_le g1
    obtain ⟨s, rfl⟩ := Int.eq_ofNat_of_zero_le (by omega : 0 ≤ t)
    have HL := Lib.hid (fun k => prt_lt (n := n) (a := a) (s := s) (k := k) (by omega) (by omega) (by omega))
    rw [Int.toNat_natCast]
    have hm3 := prt_le n a s
    generalize prt n a s = m at *
    go_enter Try.func19, Try.ntmps19
    go_wp2_with (at_builtin; refine append_row rfl (.tmp 11) (.tmp 12) 23 rfl w.heap.size 5 i0 (.int .u8 0) 1 Try.underlying23 hi hz0 hz1 hz2 rfl _ 0 _ rfl o0 A n c (bv d) rfl (by rw [bv_length, HN.out]) q1 HNil.out (bv_one _) (by unfold maxLen; omega) (by omega) hs0 ?_)
    intro v' w1 hown hg
    have hb1 := b1.grown hg hs0 (fun k hk => (o0.lt k hk).1)
    have HO := Lib.hid hown
    have HB := Lib.hid hb1
    clear hown hg o0 q1 b1 hs0 hr hb1
    go_wp2_with fail
    go_loopw [10] (fun i wr => PvRel d a key v' n m w i wr) (fun i _ => m - (intOf i).toNat)
    case atStart => exact ⟨0, Nat.zero_le _, rfl, HO.out, HB.out⟩
    case round =>
      clear HO HB
      obtain ⟨k, hk, rfl, hwn, hbr⟩ := hrel
      by_cases hlt : k < m
      · obtain ⟨l1, l2⟩ := (HL.out k).1 hlt
        obtain ⟨g, cg, rfl, hfz, hBg, hlw⟩ := own_posS hwn (by omega)
        obtain ⟨ak, hak⟩ : ∃ x, a + k = x := ⟨_, rfl⟩
        have f1 := hfz (a + k)
        have f2 := own_cellB hwn (List.getElem?_eq_getElem (show a + k < (putN d a key k).length by rw [putN_length, HN.out]; exact l2))
        generalize (putN d a key k)[a + k]'(by rw [putN_length, HN.out]; exact l2) = b at *
        have R := Lib.hid (fun z => pt_step (z := z) (m := m) hBg hlt hwn hbr)
        have HB := Lib.hid (and_bit key k)
        have z1 : (a : Int) < (n : Int) - (k : Int) := by omega
        have ew : IntKind.i64.wrap ((a : Int) + (k : Int)) = (ak : Int) := by rw [IntWalk.i64_in _ (by omega)]; omega
        rw [hak] at f1 f2 R
        clear hwn hbr hfz HL
        go_wp2_with fail
        go_roundw
        case rel => exact R.out _ HB.out
        case measure => simp [intOf]; omega
      · obtain rfl : k = m := by omega
        have hnot : ¬ (k < s ∧ a + k < n) := fun h => hlt ((HL.out k).2 h)
        have HF : Hid (MadeB (putN d a key k) w (.returned v') wr) := by
          refine ⟨_, rfl, ?_, hbr⟩
          unfold OwnB
          rw [putN_length, HN.out]
          exact hwn
        clear HL hwn hbr
        by_cases l1 : k < s
        · have z1 : ¬ (a : Int) < (n : Int) - (k : Int) := by omega
          go_wp2_with fail
          go_ret
          exact HF.out
        · go_wp2_with fail
          go_ret
          exact HF.out
  · have e0 := prt_out (n := n) hin
    rw [e0]
    clear e0
    have HF : Hid (∀ v' w1, w1.ownsRow w.heap.size 5 1 v' n (bv d) → Below w.heap.size w w1 → MadeB (putN d at'.toNat key 0) w (.returned v') w1) := by
      intro v' w1 h1 h2
      refine ⟨_, rfl, ?_, h2⟩
      unfold OwnB
      rw [putN_length, HN.out]
      exact h1
    by_cases g1 : at' < 0
    · go_enter Try.func19, Try.ntmps19
      go_wp2_with (at_builtin; refine append_row rfl (.tmp 11) (.tmp 12) 23 rfl w.heap.size 5 i0 (.int .u8 0) 1 Try.underlying23 hi hz0 hz1 hz2 rfl _ 0 _ rfl o0 A n c (bv d) rfl (by rw [bv_length, HN.out]) q1 HNil.out (bv_one _) (by unfold maxLen; omega) (by omega) hs0 ?_)
      intro v' w1 hown hg
      have HQ := Lib.hid (HF.out v' w1 hown (b1.grown hg hs0 (fun k hk => (o0.lt k hk).1)))
      clear hown hg o0 q1 b1 hs0 hr
      go_wp2_with fail
      go_ret
      exact HQ.out
    · by_cases g3 : t < 1
      · go_enter Try.func19, Try.ntmps19
        go_wp2_with (at_builtin; refine append_row rfl (.tmp 11) (.tmp 12) 23 rfl w.heap.size 5 i0 (.int .u8 0) 1 Try.underlying23 hi hz0 hz1 hz2 rfl _ 0 _ rfl o0 A n c (bv d) rfl (by rw [bv_length, HN.out]) q1 HNil.out (bv_one _) (by unfold maxLen; omega) (by omega) hs0 ?_)
        intro v' w1 hown hg
        have HQ := Lib.hid (HF.out v' w1 hown (b1.grown hg hs0 (fun k hk => (o0.lt k hk).1)))
        clear hown hg o0 q1 b1 hs0 hr
        go_wp2_with fail
        go_ret
        exact HQ.out
      · have g4 : 3 < t := by omega
        go_enter Try.func19, Try.ntmps19
        go_wp2_with (at_builtin; refine append_row rfl (.tmp 11) (.tmp 12) 23 rfl w.heap.size 5 i0 (.int .u8 0) 1 Try.underlying23 hi hz0 hz1 hz2 rfl _ 0 _ rfl o0 A n c (bv d) rfl (by rw [bv_length, HN.out]) q1 HNil.out (bv_one _) (by unfold maxLen; omega) (by omega) hs0 ?_)
        intro v' w1 hown hg
        have HQ := Lib.hid (HF.out v' w1 hown (b1.grown hg hs0 (fun k hk => (o0.lt k hk).1)))
        clear hown hg o0 q1 b1 hs0 hr
        go_wp2_with fail
        go_ret
        exact HQ.out

end Go.Proofs.Ytakefhmahngdeaa
