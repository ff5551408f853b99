/-
  Growing lists of pairs: what is meant; package trim's fits and within.
-/
import Derived.Test.YtambidlenfnbiaaPairK
namespace Go.Proofs.Ytambidlenfnbiaa
open Go.RowKit

/-- An int64. -/
def I64 (n : Int) : Prop := -9223372036854775808 ≤ n ∧ n ≤ 9223372036854775807

/-- Both ends fit into n. -/
def fits (p s n : Int) : Bool := decide (0 ≤ p ∧ 0 ≤ s ∧ 0 ≤ n ∧ n ≤ 1048576 ∧ p + s ≤ n)
/-- A pair lies within x and y. -/
def inb (x y : Int) (c : Pr) : Bool := decide (0 ≤ c.1 ∧ c.1 < x ∧ 0 ≤ c.2 ∧ c.2 < y)
def allb (x y : Int) (l : List Pr) : Bool := l.all (inb x y)
theorem allb_snoc {x y : Int} {l : List Pr} {k : Nat} {c : Pr} (h : allb x y (l.take k) = true) (hc : l[k]? = some c) (hi : inb x y c = true) : allb x y (l.take (k + 1)) = true := by
  obtain ⟨hk, e⟩ := List.getElem?_eq_some_iff.1 hc
  unfold allb at *
  rw [List.take_succ_eq_append_getElem hk, e]
  simp only [List.all_append, h, List.all_cons, hi, List.all_nil, Bool.and_self]
theorem allb_no {x y : Int} {l : List Pr} {k : Nat} {c : Pr} (hc : l[k]? = some c) (hi : inb x y c = false) : allb x y l = false := by
  unfold allb
  rw [List.all_eq_false]
  exact ⟨c, List.mem_of_getElem? hc, by rw [hi]; simp⟩
theorem allb_end {x y : Int} {l : List Pr} {k : Nat} (h : allb x y (l.take k) = true) (hk : l.length ≤ k) : allb x y l = true := by
  rwa [List.take_of_length_le hk] at h

/-- What is grown. -/
def grown (l : List Pr) (p s : Nat) (n m : Int) : List Pr :=
  (List.range p).map (fun i : Nat => ((i : Int), (i : Int))) ++ l.map (fun c : Pr => (c.1 + (p : Int), c.2 + (p : Int))) ++ (List.range s).map (fun i : Nat => (n - (s : Int) + (i : Int), m - (s : Int) + (i : Int)))
/-- Is it grown? -/
def grows (l : List Pr) (p s n m : Int) : Bool := fits p s n && fits p s m && allb (n - p - s) (m - p - s) l
def grownU (l : List Pr) (p s n m : Int) : List Pr := if grows l p s n m = true then grown l p.toNat s.toNat n m else []
def growE (l : List Pr) (p s n m : Int) : Int := if grows l p s n m = true then 0 else 1

/-- What Grow leaves. -/
def GrowMade (l : List Pr) (p s n m : Int) (w : World) (e : Ending) (w' : World) : Prop :=
  ∃ v, e = .returned (.tuple #[v, .int .i64 (growE l p s n m)]) ∧ w'.ownsRow w.heap.size 30 2 v (grownU l p s n m).length (pv (grownU l p s n m)) ∧ Below w.heap.size w w'

theorem fits_no {p s n : Int} (h : ¬ (0 ≤ p ∧ 0 ≤ s ∧ 0 ≤ n ∧ n ≤ 1048576 ∧ p + s ≤ n)) : false = fits p s n := by unfold fits; rw [decide_eq_false h]
theorem fits_yes {p s n : Int} (h : 0 ≤ p ∧ 0 ≤ s ∧ 0 ≤ n ∧ n ≤ 1048576 ∧ p + s ≤ n) : true = fits p s n := by unfold fits; rw [decide_eq_true h]

set_option maxHeartbeats 800000 in
theorem fits_any (p s n : Int) (w : World) (h1 : I64 p) (h2 : I64 s) (h3 : I64 n) :
    Calls Try.prog 24 #[.int .i64 p, .int .i64 s, .int .i64 n] w fun e w' => e = .returned (.bool (fits p s n)) ∧ w' = w := by
  unfold I64 at h1 h2 h3
  obtain ⟨b, hb⟩ : ∃ b, fits p s n = b := ⟨_, rfl⟩
  have HB := Lib.hid hb
  rw [hb]
  clear hb
  go_enter Try.func24, Try.ntmps24
  go_wp2_with fail
  · go_ret
    exact ⟨ret_bool (by rw [← HB.out]; unfold fits; rw [decide_eq_decide]; omega), rfl⟩
  all_goals (go_ret; exact ⟨ret_bool (by rw [← HB.out]; exact fits_no (by omega)), rfl⟩)

theorem inb_no {x y a b : Int} (h : ¬ (0 ≤ a ∧ a < x ∧ 0 ≤ b ∧ b < y)) : inb x y (a, b) = false := by unfold inb; rw [decide_eq_false h]
theorem inb_yes {x y a b : Int} (h : 0 ≤ a ∧ a < x ∧ 0 ≤ b ∧ b < y) : inb x y (a, b) = true := by unfold inb; rw [decide_eq_true h]

set_option maxHeartbeats 800000 in
theorem within_any (A : Option Addr) (n c : Nat) (l : List Pr) (x y : Int) (w : World) (hn : l.length = n) (hb : n ≤ 2147483648) (hr : Row w A (pv l)) :
    Calls Try.prog 25 #[.slice A n c, .int .i64 x, .int .i64 y] w fun e w' => e = .returned (.bool (allb x y l)) ∧ Below w.heap.size w w' := by
  subst hn
  obtain ⟨b, hv⟩ : ∃ b, allb x y l = b := ⟨_, rfl⟩
  have HB := Lib.hid hv
  rw [hv]
  clear hv
  go_enter Try.func25, Try.ntmps25
  go_wp2_with fail
  go_loopw [11] (fun i wr => ∃ k : Nat, k ≤ l.length ∧ i = .int .i64 k ∧ Below w.heap.size w wr ∧ Hid (allb x y (l.take k) = true)) (fun i _ => l.length - (intOf i).toNat)
  case atStart => exact ⟨0, Nat.zero_le _, rfl, Below.refl _ _, by show _ = _; simp [allb]⟩
  case round =>
    obtain ⟨k, hk, rfl, hbw, hkk⟩ := hrel
    have hr1 := hr.below hbw
    by_cases hlt : k < l.length
    · obtain ⟨g, o, rfl, hc, hd⟩ := hr1.pair hlt
      have HX : Hid (l[k]? = some l[k]) := List.getElem?_eq_getElem hlt
      generalize l[k] = z at *
      clear hr hr1
      obtain ⟨z1, z2⟩ := z
      simp only at hc hd
      have HBW := Lib.hid hbw
      clear hbw
      go_wp2_with fail
      case roundEnd =>
        go_roundw
        case rel => exact ⟨k + 1, by omega, by go_num, HBW.out.alloc HBW.out.size _, allb_snoc hkk.out HX.out (inb_yes (by omega))⟩
        case measure => simp [intOf]; omega
      all_goals (go_ret; exact ⟨ret_bool (by rw [← HB.out]; exact (allb_no HX.out (inb_no (by omega))).symm), HBW.out.alloc HBW.out.size _⟩)
    · go_wp2_with fail
      go_ret
      exact ⟨ret_bool (by rw [← HB.out, allb_end hkk.out (by omega)]), hbw⟩

end Go.Proofs.Ytambidlenfnbiaa
