/-
  Contracts of package pairs' Values, and of the reference's Values and Within.
-/
import Derived.Test.YtdgijpbgbhpffaaPrP
import Derived.Test.YtdgijpbgbhpffaaLow
namespace Go.Proofs.Ytdgijpbgbhpffaa
open Go.RowKit

theorem cell_one_new1 (w : World) (o : Obj) (x : Value) (t : TypeId) : ∀ j u, [x][j]? = some u → ((w.alloc o).alloc (.cells #[x] t)).cell? ((⟨w.heap.size + 1, 0, none⟩ : Addr).add j) = some u := by
  intro j u hu
  have := cell_one_new (w.alloc o) x t j u hu
  simpa using this

/-- The head of a round. -/
def ValRel (a : List Int) (l : List Pr) (w : World) (v i : Value) (wr : World) : Prop :=
  ∃ k t : Nat, k ≤ l.length ∧ t ≤ k ∧ i = .int .i64 (k : Int) ∧ Hid ((valsOf a (l.take k)).length = t) ∧ wr.ownsRow w.heap.size 3 1 v t (iv (valsOf a (l.take k))) ∧ Below w.heap.size w wr
theorem val_skip {a : List Int} {l : List Pr} {w wr : World} {v : Value} {k t : Nat} {p : Pr} (hk : k < l.length) (ht : t ≤ k) (hp : l[k]? = some p) (hv : valAt a p = []) (hl : (valsOf a (l.take k)).length = t) (h : wr.ownsRow w.heap.size 3 1 v t (iv (valsOf a (l.take k)))) (hb : Below w.heap.size w wr) : ValRel a l w v (.int .i64 (k + 1 : Nat)) wr := by
  have e := vals_step (a := a) hp
  rw [hv, List.append_nil] at e
  exact ⟨k + 1, t, by omega, by omega, rfl, by show _ = _; rw [e, hl], by rw [e]; exact h, hb⟩
theorem val_put {a : List Int} {l : List Pr} {w wr : World} {v : Value} {k t : Nat} {p : Pr} {u : Int} (hk : k < l.length) (ht : t ≤ k) (hp : l[k]? = some p) (hv : valAt a p = [u]) (hl : (valsOf a (l.take k)).length = t) (h : wr.ownsRow w.heap.size 3 1 v (t + 1) (iv (valsOf a (l.take k)) ++ [.int .i64 u])) (hb : Below w.heap.size w wr) : ValRel a l w v (.int .i64 (k + 1 : Nat)) wr := by
  have e := vals_step (a := a) hp
  rw [hv] at e
  exact ⟨k + 1, t + 1, by omega, by omega, rfl, by show _ = _; rw [e, List.length_append, hl]; rfl, by rw [e, iv_append]; exact h, hb⟩
theorem val_done {a : List Int} {l : List Pr} {w wr : World} {v : Value} {k t : Nat} (hk : ¬ k < l.length) (hl : (valsOf a (l.take k)).length = t) (h : wr.ownsRow w.heap.size 3 1 v t (iv (valsOf a (l.take k)))) (hb : Below w.heap.size w wr) : MadeI (valsOf a l) w (.returned v) wr := by
  rw [List.take_of_length_le (by omega)] at h hl
  subst hl
  exact ⟨v, rfl, h, hb⟩

/-! Is s a subsequence? -/
def WithinRel (s b : List Int) (r : Bool) (w : World) (u i : Value) (wr : World) : Prop :=
  ∃ k j q : Nat, k ≤ s.length ∧ j ≤ b.length ∧ u = .int .i64 (k : Int) ∧ i = .int .i64 (j : Int) ∧ wr = w.drewN q ∧ Hid ((s.drop k).isSublist (b.drop j) = r)
theorem sub_step {s b : List Int} {k j : Nat} {x y : Int} (h : s[k]? = some x) (h' : b[j]? = some y) : (s.drop k).isSublist (b.drop j) = if x = y then (s.drop (k + 1)).isSublist (b.drop (j + 1)) else (s.drop k).isSublist (b.drop (j + 1)) := by
  obtain ⟨hk, e⟩ := List.getElem?_eq_some_iff.1 h
  obtain ⟨hj, e'⟩ := List.getElem?_eq_some_iff.1 h'
  rw [List.drop_eq_getElem_cons hj, List.drop_eq_getElem_cons hk, e, e', List.isSublist]
  by_cases hxy : x = y
  · rw [if_pos hxy, if_pos (by simpa using hxy)]
  · rw [if_neg hxy, if_neg (by simpa using hxy)]
theorem sub_end {s b : List Int} {k j : Nat} (h : ¬ (j < b.length ∧ k < s.length)) (hk : k ≤ s.length) : (s.drop k).isSublist (b.drop j) = decide (k = s.length) := by
  rcases Nat.lt_or_ge k s.length with g | g
  · rw [List.drop_eq_nil_of_le (show b.length ≤ j by omega), List.drop_eq_getElem_cons g, List.isSublist, decide_eq_false (by omega)]
    simpa using g
  · rw [List.drop_eq_nil_of_le g, decide_eq_true (by omega)]
    cases b.drop j <;> rfl

set_option maxRecDepth 100000 in
set_option maxHeartbeats 1600000 in
theorem within_is (A B : Option Addr) (n m c d : Nat) (s b : List Int) (w : World) (hn : s.length = n) (hm : b.length = m) (hb : n ≤ 2147483648) (hb' : m ≤ 2147483648) (h1 : Row w A (iv s)) (h2 : Row w B (iv b)) :
    Calls Try.prog 25 #[.slice A n c, .slice B m d] w fun e w' => e = .returned (.bool (s.isSublist b)) ∧ ∃ q, w' = w.drewN q := by
  subst hn
  subst hm
  obtain ⟨r, hr0⟩ : ∃ r, s.isSublist b = r := ⟨_, rfl⟩
  rw [hr0]
  have HR := Lib.hid hr0
  clear hr0
  go_enter Try.func25, Try.ntmps25
  go_wp2_with fail
  go_loopw [5, 6] (fun u i wr => WithinRel s b r w u i wr) (fun _ i _ => b.length - (intOf i).toNat)
  case atStart => exact ⟨0, 0, 0, Nat.zero_le _, Nat.zero_le _, rfl, rfl, rfl, HR.out⟩
  case round =>
    obtain ⟨k, j, q, hk, hj, rfl, rfl, rfl, hkk⟩ := hrel
    by_cases hlt : j < b.length ∧ k < s.length
    · obtain ⟨hj1, hk1⟩ := hlt
      obtain ⟨g, o, rfl, hc⟩ := h1.int hk1
      obtain ⟨g', o', rfl, hd⟩ := h2.int hj1
      have HX : Hid (s[k]? = some s[k]) := List.getElem?_eq_getElem hk1
      have HY : Hid (b[j]? = some b[j]) := List.getElem?_eq_getElem hj1
      have HS := Lib.hid (hkk.out.symm.trans (sub_step HX.out HY.out))
      generalize s[k] = x at *
      generalize b[j] = y at *
      clear h1 h2 hkk HX HY
      by_cases hxy : x = y
      · subst hxy
        have R : Hid ((s.drop (k + 1)).isSublist (b.drop (j + 1)) = r) := by show _ = _; rw [HS.out, if_pos rfl]
        clear HS
        go_wp2_with fail
        go_quiet (fail)
        go_wp2_with fail
        go_roundw
        case rel => exact ⟨k + 1, j + 1, _, by omega, by omega, by go_num, by go_num, rfl, R.out⟩
        case measure => simp [intOf]; omega
      · have R : Hid ((s.drop k).isSublist (b.drop (j + 1)) = r) := by show _ = _; rw [HS.out, if_neg hxy]
        have hz : (y == x) = false := by simp; exact fun e => hxy e.symm
        clear HS hxy
        go_wp2_with fail
        go_quiet (fail)
        go_wp2_with fail
        go_roundw
        case rel => exact ⟨k, j + 1, _, by omega, by omega, rfl, by go_num, rfl, R.out⟩
        case measure => simp [intOf]; omega
    · have R : Hid (decide (k = s.length) = r) := by show _ = _; rw [← hkk.out, sub_end hlt hk]
      clear hkk h1 h2
      by_cases hks : k = s.length
      · have R' : Hid (true = r) := by show _ = _; rw [← R.out, decide_eq_true hks]
        have hz : ((k : Int) == (s.length : Int)) = true := by simp; omega
        clear R
        go_wp2_with fail
        all_goals (go_ret; exact ⟨ret_bool R'.out, _, rfl⟩)
      · have R' : Hid (false = r) := by show _ = _; rw [← R.out, decide_eq_false hks]
        have hz : ((k : Int) == (s.length : Int)) = false := by simp; omega
        clear R
        go_wp2_with fail
        all_goals (go_ret; exact ⟨ret_bool R'.out, _, rfl⟩)

end Go.Proofs.Ytdgijpbgbhpffaa
