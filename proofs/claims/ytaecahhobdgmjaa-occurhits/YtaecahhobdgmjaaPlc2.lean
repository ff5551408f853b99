/-
  Contracts of the reference's Next and Alike.
-/
import Derived.Test.YtaecahhobdgmjaaPlc
namespace Go.Proofs.Ytaecahhobdgmjaa
open Go.RowKit

/-- The first one from f on. -/
def nextL : List Int → Int → Int × Bool
  | [], _ => (0, false)
  | j :: l, f => if f ≤ j then (j, true) else nextL l f
theorem nextL_at {l : List Int} {k : Nat} {x f : Int} (h : l[k]? = some x) : nextL (l.drop k) f = if f ≤ x then (x, true) else nextL (l.drop (k + 1)) f := by
  obtain ⟨hk, e⟩ := List.getElem?_eq_some_iff.1 h
  rw [List.drop_eq_getElem_cons hk, e, nextL]
theorem nextL_end {l : List Int} {k : Nat} {f : Int} (h : l.length ≤ k) : nextL (l.drop k) f = (0, false) := by rw [List.drop_eq_nil_of_le h, nextL]
def nextU (ls : List (List Int)) (s f : Int) : Int × Bool := if 0 ≤ s ∧ s < (ls.length : Int) then nextL (ls[s.toNat]?.getD []) f else (0, false)

set_option maxHeartbeats 800000 in
theorem refNext_any (A : Option Addr) (n c : Nat) (vs : List Value) (ls : List (List Int)) (s f : Int) (w : World) (hn : ls.length = n) (hl : ∀ l ∈ ls, l.length ≤ 2147483648) (hr : Row w A vs) (hs : ISs w vs ls) :
    Calls Try.prog 16 #[.slice A n c, .int .i64 s, .int .i64 f] w fun e w' => e = .returned (.tuple #[.int .i64 (nextU ls s f).1, .bool (nextU ls s f).2]) ∧ w = w' := by
  have HN := Lib.hid hn
  obtain ⟨r, hR⟩ : ∃ r, nextU ls s f = r := ⟨_, rfl⟩
  rw [hR]
  have HR := Lib.hid hR
  clear hn hR
  obtain ⟨rj, rb⟩ := r
  by_cases h0 : 0 ≤ s ∧ s < (n : Int)
  · obtain ⟨k, rfl⟩ := Int.eq_ofNat_of_zero_le h0.1
    have hk : k < n := by omega
    obtain ⟨g, o, B, d, rfl, hc, b1, b2, b3, b4⟩ := ISs.cell hr hs (k := k) (by rw [HN.out]; exact hk)
    have hL : ls[k]? = some (ls[k]'(by rw [HN.out]; exact hk)) := List.getElem?_eq_getElem _
    have hbl := hl (ls[k]'(by rw [HN.out]; exact hk)) (List.getElem_mem _)
    have HR2 : Hid (nextL (ls[k]'(by rw [HN.out]; exact hk)) f = (rj, rb)) := by
      show _ = _
      have h := HR.out
      unfold nextU at h
      rw [HN.out, if_pos h0, Int.toNat_natCast, hL] at h
      exact h
    generalize ls[k]'(by rw [HN.out]; exact hk) = l at *
    have z1 : decide ((k : Int) < 0) = false := by simp
    have z2 : decide ((n : Int) ≤ (k : Int)) = false := by simp; omega
    have z3 : decide (n ≤ k) = false := by simp; omega
    clear hr hs hL HR h0 hl
    go_enter Try.func16, Try.ntmps16
    go_wp2_with fail
    go_loopw [8] (fun i wr => ∃ t : Nat, t ≤ l.length ∧ i = .int .i64 t ∧ w = wr ∧ Hid (nextL (l.drop t) f = (rj, rb))) (fun i _ => l.length - (intOf i).toNat)
    case atStart => exact ⟨0, Nat.zero_le _, rfl, rfl, HR2.out⟩
    case round =>
      obtain ⟨t, ht, rfl, rfl, htt⟩ := hrel
      by_cases hlt : t < l.length
      · obtain ⟨g', o', rfl, hd⟩ := b3.int hlt
        have HX : Hid (l[t]? = some l[t]) := List.getElem?_eq_getElem hlt
        generalize l[t] = x at *
        have hS := nextL_at (f := f) HX.out
        rw [htt.out] at hS
        by_cases hfx : f ≤ x
        · rw [if_pos hfx] at hS
          injection hS with e1 e2
          subst e1
          subst e2
          go_wp2_with fail
          go_ret2
          exact ⟨rfl, rfl⟩
        · rw [if_neg hfx] at hS
          have HS := Lib.hid hS.symm
          clear hS
          go_wp2_with fail
          go_roundw
          case rel => exact ⟨t + 1, by omega, by go_num, by first | trivial | rfl, HS.out⟩
          case measure => simp [intOf]; omega
      · have hS := nextL_end (f := f) (show l.length ≤ t by omega)
        rw [htt.out] at hS
        injection hS with e1 e2
        subst e1
        subst e2
        go_wp2_with fail
        go_ret2
        exact ⟨rfl, rfl⟩
  · have hS := HR.out
    unfold nextU at hS
    rw [HN.out, if_neg h0] at hS
    injection hS with e1 e2
    subst e1
    subst e2
    clear hr hs HR
    by_cases h1 : s < 0
    · go_enter Try.func16, Try.ntmps16
      go_wp2_with fail
      go_ret2
      exact ⟨rfl, rfl⟩
    · have h2 : (n : Int) ≤ s := by omega
      go_enter Try.func16, Try.ntmps16
      go_wp2_with fail
      go_ret2
      exact ⟨rfl, rfl⟩

/-- How many i and j are alike. -/
def alike (a b : List Int) : Nat := (a.map fun x => b.count x).sum
theorem alike_step {a b : List Int} {k : Nat} {x : Int} (h : a[k]? = some x) : alike (a.take (k + 1)) b = alike (a.take k) b + b.count x := by
  obtain ⟨hk, e⟩ := List.getElem?_eq_some_iff.1 h
  unfold alike
  rw [List.take_succ_eq_append_getElem hk, e]
  simp
theorem count_step {b : List Int} {k : Nat} {x y : Int} (h : b[k]? = some y) : (b.take (k + 1)).count x = (b.take k).count x + if x = y then 1 else 0 := by
  obtain ⟨hk, e⟩ := List.getElem?_eq_some_iff.1 h
  rw [List.take_succ_eq_append_getElem hk, e, List.count_append, List.count_singleton]
  by_cases e' : x = y
  · subst e'; simp
  · rw [if_neg e']
    have : (y == x) = false := by simpa using fun h : y = x => e' h.symm
    rw [this]
    simp
theorem alike_le (a b : List Int) (M : Nat) (hb : b.length ≤ M) : ∀ k, alike (a.take k) b ≤ k * M
  | 0 => by simp [alike]
  | k + 1 => by
    have ih := alike_le a b M hb k
    rw [Nat.succ_mul]
    by_cases hk : k < a.length
    · rw [alike_step (List.getElem?_eq_getElem hk)]
      have := List.count_le_length (a := a[k]) (l := b)
      omega
    · have h1 : a.take (k + 1) = a := List.take_of_length_le (by omega)
      have h2 : a.take k = a := List.take_of_length_le (by omega)
      rw [h1]
      rw [h2] at ih
      omega

def AlOut (a b : List Int) (w : World) (n i : Value) (wr : World) : Prop := ∃ k q : Nat, k ≤ a.length ∧ i = .int .i64 (k : Int) ∧ n = .int .i64 (alike (a.take k) b : Nat) ∧ wr = w.drewN q
def AlIn (a b : List Int) (x : Int) (k : Nat) (w : World) (n i : Value) (wr : World) : Prop := ∃ k' q : Nat, k' ≤ b.length ∧ i = .int .i64 (k' : Int) ∧ n = .int .i64 ((alike (a.take k) b + (b.take k').count x : Nat) : Int) ∧ wr = w.drewN q

set_option maxRecDepth 100000 in
set_option maxHeartbeats 1600000 in
theorem refAlike_any (A B : Option Addr) (n m c d : Nat) (a b : List Int) (w : World) (hn : a.length = n) (hm : b.length = m) (hb : n ≤ 1048576) (hb' : m ≤ 1048576) (h1 : Row w A (iv a)) (h2 : Row w B (iv b)) :
    Calls Try.prog 17 #[.slice A n c, .slice B m d] w fun e w' => e = .returned (.int .i64 (alike a b : Nat)) ∧ ∃ q, w' = w.drewN q := by
  subst hn
  subst hm
  go_enter Try.func17, Try.ntmps17
  go_wp2_with fail
  go_loopw [5, 6] (fun n i wr => AlOut a b w n i wr) (fun _ i _ => a.length - (intOf i).toNat)
  case atStart => exact ⟨0, 0, Nat.zero_le _, rfl, by simp [alike], rfl⟩
  case round =>
    obtain ⟨k, q, hk, rfl, rfl, hq⟩ := hrel
    by_cases hlt : k < a.length
    · have r1 : Row wr A (iv a) := by rw [hq]; exact h1
      have r2 : Row wr B (iv b) := by rw [hq]; exact h2
      have HQ := Lib.hid hq
      have hle := alike_le a b 1048576 hb' k
      have HX : Hid (a[k]? = some a[k]) := List.getElem?_eq_getElem hlt
      obtain ⟨g, o, rfl, hc⟩ := r1.int hlt
      generalize a[k] = x at *
      clear hq h1 h2 r1
      go_wp2_with fail
      go_loopw [5, 7] (fun n i wx => AlIn a b x k wr n i wx) (fun _ i _ => b.length - (intOf i).toNat)
      case atStart => exact ⟨0, 0, Nat.zero_le _, rfl, by simp, rfl⟩
      case round =>
        obtain ⟨k', q', hk', rfl, rfl, hq'⟩ := hrel
        subst hq'
        have hcl : (b.take k').count x ≤ k' := Nat.le_trans List.count_le_length (by simp; omega)
        by_cases hlt' : k' < b.length
        · obtain ⟨g', o', rfl, hd⟩ := r2.int hlt'
          have HY : Hid (b[k']? = some b[k']) := List.getElem?_eq_getElem hlt'
          generalize b[k'] = y at *
          clear r2
          have HC := Lib.hid (count_step (x := x) HY.out)
          by_cases heq : x = y
          · subst heq
            have HC1 : Hid ((b.take (k' + 1)).count x = (b.take k').count x + 1) := by show _ = _; rw [count_step HY.out, if_pos rfl]
            clear HC
            go_wp2_with fail
            go_quiet (fail)
            have R : AlIn a b x k wr (.int .i64 ((alike (a.take k) b + (b.take k').count x + 1 : Nat) : Int)) (.int .i64 (k' + 1 : Nat)) (wr.drewN (q' + nq)) := ⟨k' + 1, _, by omega, rfl, by rw [HC1.out]; rfl, rfl⟩
            go_wp2_with fail
            go_roundw
            case rel => first | exact R | ((repeat apply Exists.intro); exact ⟨R, rfl⟩)
            case measure => simp [intOf]; omega
          · have hz : (x == y) = false := by simpa using heq
            go_wp2_with fail
            go_quiet (fail)
            have R : AlIn a b x k wr (.int .i64 ((alike (a.take k) b + (b.take k').count x : Nat) : Int)) (.int .i64 (k' + 1 : Nat)) (wr.drewN (q' + nq)) := ⟨k' + 1, _, by omega, rfl, by rw [HC.out, if_neg heq]; rfl, rfl⟩
            clear heq
            go_wp2_with fail
            go_roundw
            case rel => first | exact R | ((repeat apply Exists.intro); exact ⟨R, rfl⟩)
            case measure => simp [intOf]; omega
        · have R : AlOut a b w (.int .i64 ((alike (a.take k) b + (b.take k').count x : Nat) : Int)) (.int .i64 (k + 1 : Nat)) (wr.drewN q') := ⟨k + 1, q + q', by omega, rfl, by rw [alike_step HX.out, List.take_of_length_le (by omega : b.length ≤ k')], by rw [HQ.out, World.drewN_drewN]⟩
          go_wp2_with fail
          go_roundw
          case rel => first | exact R | ((repeat apply Exists.intro); exact ⟨R, rfl⟩)
          case measure => simp [intOf]; omega
    · have hkl : k = a.length := by omega
      subst hkl
      rw [List.take_length]
      go_wp2_with fail
      go_ret
      exact ⟨rfl, q, by first | rfl | exact hq⟩

end Go.Proofs.Ytaecahhobdgmjaa
