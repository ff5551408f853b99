/-
  Contracts of the reference's Turned, Dist, Picked.
-/
import Derived.Test.YtdkcgehjokdnoaaGrP
import Derived.Test.YtdkcgehjokdnoaaBh2
namespace Go.Proofs.Ytdkcgehjokdnoaa
open Go.RowKit

/-! ### Turned -/
/-- The numbers from place r on, turned round. -/
def TuRel (l : List Int) (w : World) (v i : Value) (wr : World) : Prop :=
  (∃ r t : Nat, r + t + 1 = l.length ∧ i = .int .i64 (r : Int) ∧ wr.ownsRow w.heap.size 3 1 v t (iv (l.drop (r + 1)).reverse) ∧ Below w.heap.size w wr) ∨ (i = .int .i64 (-1) ∧ wr.ownsRow w.heap.size 3 1 v l.length (iv l.reverse) ∧ Below w.heap.size w wr)
theorem tu_start {l : List Int} {w : World} {x : Int} (hx : x = (l.length : Int) - 1) : TuRel l w (.slice none 0 0) (.int .i64 x) w := by
  subst hx
  cases h : l.length with
  | zero =>
    have := List.eq_nil_of_length_eq_zero h
    subst this
    exact .inr ⟨by simp, by simpa [iv] using World.ownsRow_nil w _ _ _, Below.refl _ _⟩
  | succ n => exact .inl ⟨n, 0, by omega, by congr 1; omega, by rw [List.drop_of_length_le (by omega)]; exact World.ownsRow_nil _ _ _ _, Below.refl _ _⟩
theorem tu_next {l : List Int} {w wr : World} {v : Value} {r t : Nat} {x y : Int} (hr : r + t + 1 = l.length) (hx : l[r]? = some x) (hy : y = (r : Int) - 1) (h : wr.ownsRow w.heap.size 3 1 v (t + 1) (iv (l.drop (r + 1)).reverse ++ [.int .i64 x])) (hb : Below w.heap.size w wr) : TuRel l w v (.int .i64 y) wr := by
  subst hy
  have e : iv (l.drop r).reverse = iv (l.drop (r + 1)).reverse ++ [.int .i64 x] := by
    obtain ⟨g, e⟩ := List.getElem?_eq_some_iff.1 hx
    rw [List.drop_eq_getElem_cons g, e, List.reverse_cons, iv_append]
    rfl
  cases r with
  | zero => exact .inr ⟨by simp, by rw [← hr, show 0 + t + 1 = t + 1 by omega]; rw [List.drop_zero] at e; rw [e]; exact h, hb⟩
  | succ r => exact .inl ⟨r, t + 1, by omega, by congr 1; omega, by rw [e]; exact h, hb⟩

set_option maxHeartbeats 800000 in
theorem turned_any (A : Option Addr) (N c : Nat) (l : List Int) (w : World) (hN : l.length = N) (hb : N ≤ 1048576) (hr : Row w A (iv l)) :
    Calls Try.prog 17 #[.slice A N c] w (MadeI l.reverse w) := by
  subst hN
  obtain ⟨i0, hi, hz0, hz1, hz2⟩ := info_parts Try.infoInt
  go_enter Try.func17, Try.ntmps17
  go_wp2_with fail
  go_loopw [3, 4] (fun v i wr => TuRel l w v i wr) (fun _ i _ => (intOf i + 1).toNat)
  case atStart => exact tu_start (by omega)
  case round =>
    rcases hrel with ⟨r, t, hrt, rfl, hwn, hbr⟩ | ⟨rfl, hwn, hbr⟩
    · have hlt : r < l.length := by omega
      obtain ⟨g, o, rfl, hc⟩ := (hr.below hbr).int hlt
      have HX : Hid (l[r]? = some l[r]) := List.getElem?_eq_getElem hlt
      generalize l[r] = x at *
      have hsz := hbr.size
      have HB := Lib.hid hbr
      clear hr
      go_wp2_with (at_builtin; refine wpList_append_own _ rfl (.tmp 12) (.tmp 17) 22 rfl w.heap.size 3 i0 (.int .i64 0) 1 8 Try.underlying22 hi hz0 hz1 hz2 rfl (by decide) _ _ _ rfl (hwn.alloc _) ⟨wr.heap.size, 0, none⟩ 1 1 [_] rfl rfl (cell_one_new _ _ _) (one_int _ _) (by unfold maxLen; omega) (by omega) (by simp; omega) ?_)
      intro v' w3 hown' hg' _
      have R := Lib.hid (fun y hy => tu_next (y := y) hrt HX.out hy hown' ((HB.out.alloc (by omega) _).grown hg' (by simp; omega) (fun x hx => (hwn.lt x hx).1)))
      clear hown' hg' hwn hbr
      go_wp2_with fail
      go_roundw
      case rel => exact R.out _ (by omega)
      case measure => simp [intOf]
    · have HF : Hid (MadeI l.reverse w (.returned u3) wr) := ⟨u3, rfl, by rw [List.length_reverse]; exact hwn, hbr⟩
      clear hwn hbr
      go_wp2_with fail
      go_ret
      exact HF.out

/-! ### Dist -/
/-! ### Picked -/
def bvs (l : List Bool) : List Value := l.map Value.bool
theorem bvs_length (l : List Bool) : (bvs l).length = l.length := by simp [bvs]
theorem Row.bool {w : World} {A : Option Addr} {l : List Bool} (h : Row w A (bvs l)) {k : Nat} (hk : k < l.length) : ∃ g o, A = some ⟨g, o, none⟩ ∧ w.cell? ⟨g, o + k, none⟩ = some (.bool l[k]) := by
  obtain ⟨g, o, e, hc⟩ := h.at_ k (by simpa [bvs] using hk)
  exact ⟨g, o, e, by rw [hc]; simp [bvs]⟩
/-- Those whose bits are 1. -/
def pick : List Int → List Bool → List Int
  | x :: a, true :: s => x :: pick a s
  | _ :: a, false :: s => pick a s
  | _, _ => []
theorem pick_sub : ∀ (a : List Int) (s : List Bool), (pick a s).Sublist a
  | [], _ => List.Sublist.refl _
  | _ :: _, [] => List.nil_sublist _
  | x :: a, true :: s => (pick_sub a s).cons_cons x
  | x :: a, false :: s => (pick_sub a s).cons x
theorem pick_nil (a : List Int) : pick a [] = [] := by cases a <;> rfl
theorem pick_step : ∀ {a : List Int} {s : List Bool} {k : Nat} {x : Int} {t : Bool}, a[k]? = some x → s[k]? = some t → pick (a.take (k + 1)) (s.take (k + 1)) = pick (a.take k) (s.take k) ++ (if t then [x] else [])
  | y :: a, u :: s, 0, x, t, h1, h2 => by
    simp at h1 h2
    subst h1
    subst h2
    cases u <;> simp [pick, pick_nil]
  | y :: a, u :: s, k + 1, x, t, h1, h2 => by
    have ih := pick_step (a := a) (s := s) (k := k) (by simpa using h1) (by simpa using h2)
    simp only [List.take_succ_cons]
    cases u
    · simpa [pick] using ih
    · simpa [pick] using ih
  | [], _, _, _, _, h1, _ => by simp at h1
  | _ :: _, [], _, _, _, _, h2 => by simp at h2
theorem pick_take (a : List Int) (s : List Bool) {k : Nat} (h : a.length ≤ k ∨ s.length ≤ k) : pick (a.take k) (s.take k) = pick a s := by
  induction a generalizing s k with
  | nil => simp [pick]
  | cons x a ih =>
    cases s with
    | nil => rw [List.take_nil, pick_nil, pick_nil]
    | cons t s =>
      cases k with
      | zero => simp at h
      | succ k =>
        have := ih s (k := k) (by simpa using h)
        simp only [List.take_succ_cons]
        cases t
        · simpa [pick] using this
        · simpa [pick] using this

def PkRel (a : List Int) (s : List Bool) (w : World) (v i : Value) (wr : World) : Prop :=
  ∃ k t : Nat, k ≤ a.length ∧ t ≤ k ∧ i = .int .i64 (k : Int) ∧ Hid ((pick (a.take k) (s.take k)).length = t) ∧ wr.ownsRow w.heap.size 3 1 v t (iv (pick (a.take k) (s.take k))) ∧ Below w.heap.size w wr
theorem pk_skip {a : List Int} {s : List Bool} {w wr : World} {v : Value} {k t : Nat} {x : Int} (hk : k < a.length) (ht : t ≤ k) (h1 : a[k]? = some x) (h2 : s[k]? = some false) (hl : (pick (a.take k) (s.take k)).length = t) (h : wr.ownsRow w.heap.size 3 1 v t (iv (pick (a.take k) (s.take k)))) (hb : Below w.heap.size w wr) : PkRel a s w v (.int .i64 (k + 1 : Nat)) wr := by
  have e := pick_step h1 h2
  simp only [Bool.false_eq_true, if_false, List.append_nil] at e
  exact ⟨k + 1, t, by omega, by omega, rfl, by show _ = _; rw [e, hl], by rw [e]; exact h, hb⟩
theorem pk_put {a : List Int} {s : List Bool} {w wr : World} {v : Value} {k t : Nat} {x : Int} (hk : k < a.length) (ht : t ≤ k) (h1 : a[k]? = some x) (h2 : s[k]? = some true) (hl : (pick (a.take k) (s.take k)).length = t) (h : wr.ownsRow w.heap.size 3 1 v (t + 1) (iv (pick (a.take k) (s.take k)) ++ [.int .i64 x])) (hb : Below w.heap.size w wr) : PkRel a s w v (.int .i64 (k + 1 : Nat)) wr := by
  have e := pick_step h1 h2
  simp only [if_true] at e
  exact ⟨k + 1, t + 1, by omega, by omega, rfl, by show _ = _; rw [e, List.length_append, hl]; rfl, by rw [e, iv_append]; exact h, hb⟩
theorem pk_done {a : List Int} {s : List Bool} {w wr : World} {v : Value} {k t : Nat} (hk : a.length ≤ k ∨ s.length ≤ k) (hl : (pick (a.take k) (s.take k)).length = t) (h : wr.ownsRow w.heap.size 3 1 v t (iv (pick (a.take k) (s.take k)))) (hb : Below w.heap.size w wr) : MadeI (pick a s) w (.returned v) wr := by
  rw [pick_take a s hk] at h hl
  subst hl
  exact ⟨v, rfl, h, hb⟩

end Go.Proofs.Ytdkcgehjokdnoaa
