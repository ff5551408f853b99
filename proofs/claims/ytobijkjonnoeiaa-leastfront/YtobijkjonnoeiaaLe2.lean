/-
  Contract of the reference's Least.
-/
import Derived.Test.YtobijkjonnoeiaaLe1
import Derived.Test.YtobijkjonnoeiaaPairK
namespace Go.Proofs.Ytobijkjonnoeiaa
open Go.RowKit

/-- A beginning of the least list, and from where it goes on. -/
inductive Chain (a b : List Int) : List Pr → Nat → Nat → Prop
  | nil : Chain a b [] 0 0
  | snoc {l : List Pr} {i j L x y : Nat} : Chain a b l i j → lx a b i j = L + 1 → First a b i j L x y → Chain a b (l ++ [((x : Int), (y : Int))]) (x + 1) (y + 1)

theorem first_has {a b : List Int} {i j L : Nat} (h : lx a b i j = L + 1) : ∃ x y, i ≤ x ∧ j ≤ y ∧ Pz a b L x y := by
  obtain ⟨x, y, hx, hy, h1, h2, h3, h4⟩ := lcs_pair a b i j (by unfold lx at h; omega)
  refine ⟨x, y, h1, h2, a[x], List.getElem?_eq_getElem hx, ?_, ?_⟩
  · rw [List.getElem?_eq_getElem hy, h3]
  · unfold lx at h ⊢
    omega
theorem Chain.count {a b : List Int} {l : List Pr} {i j : Nat} (h : Chain a b l i j) : l.length + lx a b i j = lcs a b ∧ i ≤ a.length ∧ j ≤ b.length := by
  induction h with
  | nil => exact ⟨by rw [lx_lcs]; simp, Nat.zero_le _, Nat.zero_le _⟩
  | snoc _ h1 h2 ih =>
    obtain ⟨_, _, hp, _⟩ := h2
    have hl := hp.lt
    obtain ⟨_, _, _, h5⟩ := hp
    refine ⟨?_, by omega, by omega⟩
    simp only [List.length_append, List.length_singleton]
    omega

/-- What Least leaves. -/
def LeastMade (a b : List Int) (w : World) (e : Ending) (w' : World) : Prop :=
  ∃ v l i j, e = .returned v ∧ Chain a b l i j ∧ l.length = lcs a b ∧ w'.ownsRow w.heap.size 26 2 v l.length (pv l) ∧ Below w.heap.size w w'

/-- The head of a round. -/
def LeastRel (a b : List Int) (w w0 : World) (v i j left : Value) (wr : World) : Prop :=
  ∃ (l : List Pr) (x y : Nat), Chain a b l x y ∧ i = .int .i64 (x : Int) ∧ j = .int .i64 (y : Int) ∧ left = .int .i64 (lx a b x y : Nat) ∧ wr.ownsRow w0.heap.size 26 2 v l.length (pv l) ∧ Below w0.heap.size w0 wr ∧ Below w.heap.size w wr

set_option maxRecDepth 100000 in
set_option maxHeartbeats 3200000 in
theorem least_any (A B : Option Addr) (n m c d : Nat) (a b : List Int) (w : World) (hn : a.length = n) (hm : b.length = m) (hb : n ≤ 1048576) (hb' : m ≤ 1048576) (h1 : Row w A (iv a)) (h2 : Row w B (iv b)) :
    Calls Try.prog 13 #[.slice A n c, .slice B m d] w (LeastMade a b w) := by
  obtain ⟨i0, hi, hz0, hz1, hz2⟩ := info_parts Try.infoPair
  have HN := Lib.hid hn
  have HM := Lib.hid hm
  clear hn hm
  go_enter Try.func13, Try.ntmps13
  go_wp2_with fail
  refine (behind_any A B n m c d a b w HN.out HM.out hb hb' h1 h2).mono ?_
  rintro e w1 ⟨rfl, hT, hB⟩
  obtain ⟨t1, t2⟩ := hT 0 (Nat.zero_le _)
  have t3 := t2 0 (Nat.zero_le _)
  simp only [Nat.sub_zero] at t1 t3
  have r1 := h1.below hB
  have r2 := h2.below hB
  clear t2 h1 h2
  go_wp2_with fail
  go_loopw [6, 7, 8, 9] (fun v i j left wr => LeastRel a b w w1 v i j left wr) (fun _ _ _ left _ => (intOf left).toNat)
  case atStart => exact ⟨[], 0, 0, .nil, rfl, rfl, rfl, World.ownsRow_nil _ _ _ _, Below.refl _ _, hB⟩
  case round =>
    clear t1 t3
    obtain ⟨l, x, y, hch, rfl, rfl, rfl, hown, hb1, hbw⟩ := hrel
    obtain ⟨hcnt, hx, hy⟩ := hch.count
    have hll := lcs_le_left a b
    have hsz := hb1.size
    have hsw := hB.size
    cases hL : lx a b x y with
    | zero =>
      have HF : Hid (LeastMade a b w (.returned u6) wr) := ⟨u6, l, x, y, rfl, hch, by omega, own_lowerS hown hsw, hbw⟩
      clear hown
      go_wp2_with fail
      go_ret
      exact HF.out
    | succ L =>
      rw [HN.out] at hx hll
      rw [HM.out] at hy
      have R1 := Row.below (w := w1) r1 hb1
      have R2 := Row.below (w := w1) r2 hb1
      have RT := Table.below hT hb1
      have FC := Lib.hid (first_any A B n m c d w.heap.size x y L a b wr HN.out HM.out hb hb' R1 R2 RT hx hy (by omega) (first_has hL))
      have HL := Lib.hid hL
      have HC := Lib.hid hch
      clear R1 R2 RT hL hch
      go_wp2_with fail
      refine FC.out.mono ?_
      rintro e w2 ⟨x', y', rfl, hF, q, hq⟩
      have own2 : w2.ownsRow w1.heap.size 26 2 u6 l.length (pv l) := by rw [hq]; exact hown
      have hb2 : Below w1.heap.size w1 w2 := by rw [hq]; exact below_drewN hb1 q
      have hbw2 : Below w.heap.size w w2 := by rw [hq]; exact below_drewN hbw q
      have hsz2 := hb2.size
      have hcnt2 : l.length + (L + 1) = lcs a b := by have := HL.out; omega
      obtain ⟨g1, g2⟩ := hF.2.2.1.lt
      rw [HN.out] at g1
      rw [HM.out] at g2
      have HF := Lib.hid hF
      have HC' := Lib.hid (Chain.snoc HC.out HL.out hF)
      have HV : Hid (lx a b (x' + 1) (y' + 1) = L) := by obtain ⟨_, _, ⟨_, _, _, h⟩, _⟩ := hF; exact h
      clear hq hown hb1 hbw FC hF hsz HL HC hcnt
      go_wp2_with (at_builtin; refine wpList_append_own _ rfl (.tmp 34) (.tmp 38) 22 rfl w1.heap.size 26 i0 (.agg #[.int .i64 0, .int .i64 0]) 2 16 Try.underlying22 hi hz0 hz1 hz2 rfl (by decide) _ _ _ rfl (own2.alloc _) ⟨w2.heap.size, 0, none⟩ 1 1 [_, _] rfl rfl (pair_new _ _ _ _) (one_pair _ _) (by unfold maxLen; omega) (by omega) (by simp; omega) ?_)
      intro v' w3 own3 hg3 _
      have R : LeastRel a b w w1 v' (.int .i64 (x' + 1 : Nat)) (.int .i64 (y' + 1 : Nat)) (.int .i64 (L : Nat)) w3 := by
        refine ⟨_, x' + 1, y' + 1, HC'.out, rfl, rfl, by rw [HV.out], ?_, (hb2.alloc hsz2 _).grown hg3 (by simp; omega) (fun x hx => (own2.lt x hx).1), (hbw2.alloc (by omega) _).grown hg3 (by simp; omega) (fun x hx => Nat.le_trans hsw (own2.lt x hx).1)⟩
        rw [pv_append, pv_one, List.length_append]
        exact own3
      clear own3 hg3 own2 hb2 hbw2 HC' HF
      go_wp2_with fail
      go_roundw
      case rel => exact R
      case measure => simp [intOf]

end Go.Proofs.Ytobijkjonnoeiaa
