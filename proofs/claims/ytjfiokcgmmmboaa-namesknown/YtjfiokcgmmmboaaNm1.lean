/-
  Contracts that only read, for chapter 2: bytes.Compare, bytes.Equal, the reference's Same and Below.
-/
import Derived.Test.YtjfiokcgmmmboaaMemB
import Derived.Test.YtjfiokcgmmmboaaPure2
import Derived.Lib.BytesEntry
import Derived.Laws.Externs
import Derived.Deep.QuietTactic
import Derived.BigQuiet
namespace Go.Proofs.Ytjfiokcgmmmboaa
open Go.RowKit
open Go.Lib (compareBytes)

theorem bytesOf_row {P : Program} {w : World} {A : Option Addr} {l : Bs} {n : Nat} (c : Nat) (hn : l.length = n) (hr : Row w A (bv l)) : (Extern.Bytes.bytesOf (.slice A n c)).run P w = .ok ⟨l.toArray⟩ w := by
  subst hn
  cases A with
  | none =>
    have hl : l = [] := by
      by_cases h : bv l = []
      · simpa [bv] using h
      · obtain ⟨g, o, e', _⟩ := hr h
        cases e'
    subst hl
    simp [Extern.Bytes.bytesOf, ByteArray.empty, ByteArray.emptyWithCapacity]
    first | rfl | skip
  | some a =>
    have h := Lib.run_loadBytesX (P := P) w (l.map fun b => (b.toNat : Int)) a .empty (fun j x hj => by
      rw [List.getElem?_map] at hj
      obtain ⟨b, hb, rfl⟩ := Option.map_eq_some_iff.1 hj
      obtain ⟨g, o, e', hc⟩ := hr (by intro e; have e2 : l = [] := (by simpa [bv] using e); subst e2; simp at hb)
      cases e'
      rw [Addr.add_lit]
      exact hc j _ (by simp [bv, hb]))
    rw [List.length_map] at h
    simp only [Extern.Bytes.bytesOf]
    rw [h]
    have e : Lib.bytesOf (l.map fun b => (b.toNat : Int)) = l := by
      unfold Lib.bytesOf
      rw [List.map_map]
      conv => rhs; rw [← List.map_id l]
      apply List.map_congr_left
      intro x _
      simp
    rw [e]
    congr 1
    apply ByteArray.ext
    show (#[] : Array UInt8) ++ l.toArray = l.toArray
    simp

theorem run_compare {P : Program} {w : World} {A B : Option Addr} {l r : Bs} {n m : Nat} (c d : Nat) (hn : l.length = n) (hm : r.length = m) (h1 : Row w A (bv l)) (h2 : Row w B (bv r)) :
    (Extern.BytealgCompare.compare #[.slice A n c, .slice B m d]).run P w = .ok (.int .i64 (compareBytes l r)) w := by
  change Sem.run P (do pure (goInt (Extern.BytealgCompare.cmp (← Extern.Bytes.bytesOf (.slice A n c)) (← Extern.Bytes.bytesOf (.slice B m d))))) w = _
  simp only [Sem.run_bind, Sem.run_pure, bytesOf_row c hn h1, bytesOf_row d hm h2, Result.andThen]
  rw [Lib.cmp_eq]
  rfl

/-- bytes.Compare -/
theorem cmp_any (A B : Option Addr) (n m c d : Nat) (l r : Bs) (w : World) (hn : l.length = n) (hm : r.length = m) (h1 : Row w A (bv l)) (h2 : Row w B (bv r)) :
    Calls Try.prog 26 #[.slice A n c, .slice B m d] w fun e w' => e = .returned (.int .i64 (compareBytes l r)) ∧ w = w' := by
  have H := Lib.hid (run_compare (P := Try.prog) c d hn hm h1 h2)
  clear h1 h2 hn hm
  go_enter Try.func26, Try.ntmps26
  go_wp2_with fail
  rw [run_callFunc_extern Try.func31 (by kernel_rfl) (by kernel_rfl) (by kernel_rfl) (e := Extern.BytealgCompare.compare) (by kernel_rfl), H.out]
  simp only [Result.andThen]
  rw [Oper.upon_value]
  go_wp2_with fail
  go_ret
  exact ⟨rfl, rfl⟩

theorem beq_dec (l r : Bs) : (l == r) = decide (l = r) := by
  by_cases h : l = r
  · subst h; simp
  · simp [h]

/-- bytes.Equal -/
theorem eq_any (A B : Option Addr) (n m c d : Nat) (l r : Bs) (w : World) (hn : l.length = n) (hm : r.length = m) (h1 : Row w A (bv l)) (h2 : Row w B (bv r)) :
    Calls Try.prog 30 #[.slice A n c, .slice B m d] w fun e w' => e = .returned (.bool (decide (l = r))) ∧ w = w' := by
  have cv := conv_any (P := Try.prog) hn h1 24 9 5 c Try.underlying24 Try.underlying5 Try.underlying9
  have cv' := conv_any (P := Try.prog) hm h2 24 9 5 d Try.underlying24 Try.underlying5 Try.underlying9
  clear h1 h2 hn hm
  go_enter Try.func30, Try.ntmps30
  go_wp2_with fail
  go_ret
  exact ⟨ret_bool (by simpa using beq_dec l r), rfl⟩

/-- tattingref1.Same -/
theorem refSame_any (A B : Option Addr) (n m c d : Nat) (l r : Bs) (w : World) (hn : l.length = n) (hm : r.length = m) (h1 : Row w A (bv l)) (h2 : Row w B (bv r)) :
    Calls Try.prog 21 #[.slice A n c, .slice B m d] w fun e w' => e = .returned (.bool (decide (l = r))) ∧ w = w' := by
  have cv := conv_any (P := Try.prog) hn h1 24 9 5 c Try.underlying24 Try.underlying5 Try.underlying9
  have cv' := conv_any (P := Try.prog) hm h2 24 9 5 d Try.underlying24 Try.underlying5 Try.underlying9
  clear h1 h2 hn hm
  go_enter Try.func21, Try.ntmps21
  go_wp2_with fail
  go_ret
  exact ⟨ret_bool (by simpa using beq_dec l r), rfl⟩

theorem lb_at (l r : Bs) : ∀ k, k ≤ l.length → k ≤ r.length → l.take k = r.take k → lb l r = lb (l.drop k) (r.drop k) := by
  intro k
  induction k generalizing l r with
  | zero => intro _ _ _; rfl
  | succ k ih =>
    intro h1 h2 h
    cases l with
    | nil => simp at h1
    | cons x l =>
      cases r with
      | nil => simp at h2
      | cons y r =>
        simp only [List.take_succ_cons, List.cons.injEq] at h
        obtain ⟨rfl, h⟩ := h
        simp only [List.length_cons] at h1 h2
        have := ih l r (by omega) (by omega) h
        simp only [List.drop_succ_cons]
        rw [← this]
        unfold lb
        rw [compareBytes]
        simp
theorem lb_differ (l r : Bs) (k : Nat) (h1 : k < l.length) (h2 : k < r.length) (h : l.take k = r.take k) (hne : l[k] ≠ r[k]) : lb l r = decide ((l[k].toNat : Int) < (r[k].toNat : Int)) := by
  rw [lb_at l r k (by omega) (by omega) h, List.drop_eq_getElem_cons h1, List.drop_eq_getElem_cons h2]
  unfold lb
  rw [compareBytes]
  rcases u8_cases l[k] r[k] with h3 | h3 | h3
  · have := UInt8.lt_iff_toNat_lt.1 h3
    simp [h3, this]
  · exact absurd h3 hne
  · have := UInt8.lt_iff_toNat_lt.1 h3
    simp [h3, u8_asymm h3]
    omega
theorem lb_end (l r : Bs) (k : Nat) (h1 : k ≤ l.length) (h2 : k ≤ r.length) (h : l.take k = r.take k) (he : k = l.length ∨ k = r.length) : lb l r = decide ((l.length : Int) < (r.length : Int)) := by
  rw [lb_at l r k h1 h2 h]
  rcases he with e | e
  · have hd : l.drop k = [] := List.drop_eq_nil_of_le (by omega)
    rw [hd]
    cases hr : r.drop k with
    | nil =>
      have := List.drop_eq_nil_iff.1 hr
      simp [lb, compareBytes]; omega
    | cons y s =>
      have : k < r.length := by
        rcases Nat.lt_or_ge k r.length with h3 | h3
        · exact h3
        · rw [List.drop_eq_nil_of_le h3] at hr; cases hr
      simp [lb, compareBytes]; omega
  · have hd : r.drop k = [] := List.drop_eq_nil_of_le (by omega)
    rw [hd]
    cases hl : l.drop k with
    | nil =>
      have := List.drop_eq_nil_iff.1 hl
      simp [lb, compareBytes]; omega
    | cons y s =>
      have : k < l.length := by
        rcases Nat.lt_or_ge k l.length with h3 | h3
        · exact h3
        · rw [List.drop_eq_nil_of_le h3] at hl; cases hl
      simp [lb, compareBytes]; omega

set_option maxHeartbeats 800000 in
/-- tattingref1.Below -/
theorem refBelow_any (A B : Option Addr) (n m c d : Nat) (l r : Bs) (w : World) (hn : l.length = n) (hm : r.length = m) (hb : n ≤ 2147483648) (hb' : m ≤ 2147483648) (h1 : Row w A (bv l)) (h2 : Row w B (bv r)) :
    Calls Try.prog 22 #[.slice A n c, .slice B m d] w fun e w' => e = .returned (.bool (lb l r)) ∧ ∃ q, w' = w.drewN q := by
  subst hn
  subst hm
  go_enter Try.func22, Try.ntmps22
  go_wp2_with fail
  go_loopw [5] (fun i wr => ∃ k q : Nat, k ≤ l.length ∧ k ≤ r.length ∧ i = .int .i64 k ∧ wr = w.drewN q ∧ Hid (l.take k = r.take k)) (fun i _ => l.length - (intOf i).toNat)
  case atStart => exact ⟨0, 0, Nat.zero_le _, Nat.zero_le _, rfl, rfl, by show _ = _; simp⟩
  case round =>
    obtain ⟨k, q, hk, hk', rfl, rfl, hkk⟩ := hrel
    by_cases hlt : k < l.length
    · by_cases hlt' : k < r.length
      · obtain ⟨g, o, rfl, hc⟩ := h1.byte hlt
        obtain ⟨g', o', rfl, hc'⟩ := h2.byte hlt'
        have HS := Lib.hid (List.take_succ_eq_append_getElem hlt)
        have HS' := Lib.hid (List.take_succ_eq_append_getElem hlt')
        have HD := Lib.hid (lb_differ l r k hlt hlt' hkk.out)
        have HL : Hid (l[k].toNat < 256) := UInt8.toNat_lt l[k]
        generalize l[k] = x at *
        generalize r[k] = y at *
        clear h1 h2
        by_cases heq : x = y
        · subst heq
          go_wp2_with fail
          go_quiet (fail)
          go_wp2_with fail
          go_roundw
          case rel => exact ⟨k + 1, _, by omega, by omega, by go_num, rfl, by show _ = _; rw [HS.out, HS'.out, hkk.out]⟩
          case measure => simp [intOf]; omega
        · have hz : ((x.toNat : Int) != (y.toNat : Int)) = true := by
            simp
            intro e
            exact heq (UInt8.toNat.inj (by omega))
          have HF := Lib.hid (HD.out heq)
          clear heq HD
          go_wp2_with fail
          go_quiet (fail)
          go_wp2_with fail
          go_quiet (fail)
          go_wp2_with fail
          go_ret
          refine ⟨by rw [HF.out]; first | rfl | simp, ?_⟩
          first | exact ⟨_, rfl⟩ | exact ⟨_, by rw [World.drewN_drewN]⟩ | exact ⟨_, by rw [World.drewN_drewN, World.drewN_drewN]⟩
      · have HF := Lib.hid (lb_end l r k hk hk' hkk.out (.inr (by omega)))
        clear h1 h2
        go_wp2_with fail
        go_ret
        exact ⟨by rw [HF.out]; first | rfl | simp, _, rfl⟩
    · have HF := Lib.hid (lb_end l r k hk hk' hkk.out (.inl (by omega)))
      clear h1 h2
      go_wp2_with fail
      go_ret
      exact ⟨by rw [HF.out]; first | rfl | simp, _, rfl⟩

end Go.Proofs.Ytjfiokcgmmmboaa
