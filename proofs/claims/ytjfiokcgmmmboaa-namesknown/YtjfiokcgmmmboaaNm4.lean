/-
  slices.CompactFunc over tokens, with bytes.Equal.
-/
import Derived.Test.YtjfiokcgmmmboaaNm1
import Derived.Test.YtjfiokcgmmmboaaSortRow
import Derived.Deep.LoopGhost
namespace Go.Proofs.Ytjfiokcgmmmboaa
open Go.RowKit
open Go.Lib (compareBytes)

theorem eq_quiet (A B : Option Addr) (n m c d q : Nat) (l r : Bs) (w : World) (b : Bool) (hn : l.length = n) (hm : r.length = m) (h1 : Row w A (bv l)) (h2 : Row w B (bv r)) (hv : decide (l = r) = b) :
    Calls Try.prog 30 #[.slice A n c, .slice B m d] (w.drewN q) fun e w'' => e = .returned (.bool b) ∧ ∃ k, w'' = w.drewN k := by
  subst hv
  exact (eq_any A B n m c d l r (w.drewN q) hn hm h1 h2).mono fun e w' ⟨he, hw⟩ => ⟨he, q, hw.symm⟩

/-- What is left: a row of the call's own, which reads ds; the tokens lay there before. -/
def LeftT (ds : List Bs) (w : World) (e : Ending) (w' : World) : Prop :=
  ∃ v xs, e = .returned v ∧ w'.ownsRow w.heap.size 24 1 v ds.length xs ∧ BSs w xs ds ∧ Below w.heap.size w w'

/-- The head of a round of the first loop. -/
def CRel1 (g cap : Nat) (xs : List Value) (ls : List Bs) (w : World) (i : Value) (wr : World) : Prop :=
  ∃ k : Nat, 1 ≤ k ∧ k ≤ ls.length ∧ i = .int .i64 k ∧ compact (ls.take k) = ls.take k ∧ wr.ownsRow w.heap.size 24 1 (.slice (some ⟨g, 0, none⟩) ls.length cap) ls.length xs ∧ Below w.heap.size w wr

/-- The head of a round of the second loop: m are looked at, kk are kept. -/
def CRel2 (g cap k : Nat) (xs : List Value) (ls : List Bs) (w : World) (i j : Value) (wr : World) : Prop :=
  ∃ (kk k2 : Nat) (ys : List Value), i = .int .i64 kk ∧ j = .int .i64 k2 ∧ 1 ≤ k2 ∧ k + k2 ≤ ls.length ∧ kk < k + k2 ∧ ys.length = ls.length ∧ BSs w (ys.take kk) (compact (ls.take (k + k2))) ∧ (∀ a, k + k2 ≤ a + 1 → ys[a]? = xs[a]?) ∧
    wr.ownsRow w.heap.size 24 1 (.slice (some ⟨g, 0, none⟩) ls.length cap) ls.length ys ∧ Below w.heap.size w wr

theorem compact_take {ls : List Bs} {k : Nat} (h1 : 1 ≤ k) (h2 : k < ls.length) : compact (ls.take (k + 1)) = if ls[k - 1] = ls[k] then compact (ls.take k) else compact (ls.take k) ++ [ls[k]] := by
  obtain ⟨k, rfl⟩ : ∃ j, k = j + 1 := ⟨k - 1, by omega⟩
  have e1 : ls.take (k + 1 + 1) = ls.take k ++ [ls[k], ls[k + 1]] := by
    rw [List.take_succ_eq_append_getElem h2, List.take_succ_eq_append_getElem (by omega), List.append_assoc]
    rfl
  have e2 : ls.take (k + 1) = ls.take k ++ [ls[k]] := List.take_succ_eq_append_getElem (by omega)
  rw [e1, e2, compact_snoc]
  simp only [Nat.add_sub_cancel]

theorem compact_one {ls : List Bs} (h : ls.length ≤ 1) : compact ls = ls := by
  match ls, h with
  | [], _ => rfl
  | [_], _ => rfl
theorem BSs.at_ {w : World} {xs : List Value} {ls : List Bs} (h : BSs w xs ls) {k : Nat} (hk : k < ls.length) : ∃ A c, xs[k]? = some (.slice A ls[k].length c) ∧ BS w (.slice A ls[k].length c) ls[k] ∧ Row w A (bv ls[k]) := by
  have hx : k < xs.length := by rw [h.1]; exact hk
  obtain ⟨A, c, e, h1, h2, h3, h4⟩ := h.get hk
  exact ⟨A, c, by rw [List.getElem?_eq_getElem hx, e], ⟨A, c, rfl, h1, h2, h3, h4⟩, h3⟩
theorem BSs.takeB {w : World} {xs : List Value} {ls : List Bs} (h : BSs w xs ls) (k : Nat) : BSs w (xs.take k) (ls.take k) := ⟨by simp [h.1], fun i v l hv hl' => by
    rw [List.getElem?_take] at hv hl'
    split at hv
    · rw [if_pos (by assumption)] at hl'
      exact h.2 i v l hv hl'
    · cases hv⟩

/-- A token that is kept. -/
theorem store_round {g cap k kk k2 : Nat} {xs ys : List Value} {ls : List Bs} {w wr : World} {v : Value} (hlt : k + k2 < ls.length) (h1 : 1 ≤ k2) (h3 : kk < k + k2) (h4 : ys.length = ls.length) (h5 : BSs w (ys.take kk) (compact (ls.take (k + k2)))) (h6 : ∀ a, k + k2 ≤ a + 1 → ys[a]? = xs[a]?)
    (hown : wr.ownsRow w.heap.size 24 1 (.slice (some ⟨g, 0, none⟩) ls.length cap) ls.length ys) (hbr : Below w.heap.size w wr) (hc : compact (ls.take (k + k2 + 1)) = if ls[k + k2 - 1] = ls[k + k2] then compact (ls.take (k + k2)) else compact (ls.take (k + k2)) ++ [ls[k + k2]])
    (hne : ¬ ls[k + k2 - 1] = ls[k + k2]) (hv : BS w v ls[k + k2]) (hg : w.heap.size ≤ g) : ∀ q, CRel2 g cap k xs ls w (.int .i64 (kk + 1 : Nat)) (.int .i64 (k2 + 1 : Nat)) ((wr.setCell ⟨g, kk, none⟩ v).drewN q) := fun q => by
  rw [if_neg hne] at hc
  refine ⟨kk + 1, k2 + 1, ys.set kk v, rfl, rfl, by omega, by omega, by omega, by simpa using h4, ?_, fun a ha => ?_, (hown.stored kk v).1, below_drewN (hbr.setCell hg v) q⟩
  · rw [show k + (k2 + 1) = k + k2 + 1 by omega, hc]
    have e : (ys.set kk v).take (kk + 1) = ys.take kk ++ [v] := by
      rw [List.take_succ_eq_append_getElem (by simp; omega), List.take_set_of_le (Nat.le_refl _), List.getElem_set_self]
    rw [e]
    exact h5.snoc hv
  · rw [List.getElem?_set_ne (by omega)]
    exact h6 a (by omega)

theorem Below.reads {w wr : World} (hb : Below w.heap.size w wr) {A : Option Addr} {us : List Value} (h : Row w A us) : Row wr A us := h.below hb

set_option maxRecDepth 100000 in
set_option maxHeartbeats 4000000 in
theorem compactF_any (g n cap : Nat) (xs : List Value) (ls : List Bs) (w W : World) (hn : ls.length = n) (hb : n ≤ 2147483648) (hown : W.ownsRow w.heap.size 24 1 (.slice (some ⟨g, 0, none⟩) n cap) n xs) (hbs : BSs w xs ls) (hbW : Below w.heap.size w W) :
    Calls Try.prog 29 #[.slice (some ⟨g, 0, none⟩) n cap, .func (.func 30) #[] #[]] W (LeftT (compact ls) w) := by
  subst hn
  have hgg := own_lt hown
  by_cases h2 : ls.length < 2
  · have R : LeftT (compact ls) w (.returned (.slice (some ⟨g, 0, none⟩) ls.length cap)) W := by
      rw [compact_one (by omega)]
      exact ⟨_, xs, rfl, hown, hbs, hbW⟩
    clear hown hbs hbW
    go_enter Try.func29, Try.ntmps29
    go_wp2_with fail
    go_ret
    exact R
  · go_enter Try.func29, Try.ntmps29
    go_wp2_with fail
    go_loopw [5] (fun i wr => CRel1 g cap xs ls w i wr) (fun i _ => ls.length - (intOf i).toNat)
    case atStart => exact ⟨1, Nat.le_refl _, by omega, rfl, compact_one (by simp; omega), hown, hbW⟩
    case round =>
      clear hown hbW
      obtain ⟨k, hk1, hk2, rfl, hall, hown, hbr⟩ := hrel
      have HA := Lib.hid hall
      clear hall
      have hgg := own_lt hown
      by_cases hlt : k < ls.length
      · obtain ⟨A1, c1, hx1, b1, r1⟩ := hbs.at_ hlt
        obtain ⟨A0, c0, hx0, b0, r0⟩ := hbs.at_ (k := k - 1) (by omega)
        have cell1 := (hown.cellAt k (by omega)).trans hx1
        have cell0 := (hown.cellAt (k - 1) (by omega)).trans hx0
        have r1' := r1.below hbr
        have r0' := r0.below hbr
        have HC := Lib.hid (compact_take hk1 hlt)
        have hk0 : ((k : Int) - 1).toNat = k - 1 := by omega
        have hkw : IntKind.i64.wrap ((k : Int) - 1) = (k : Int) - 1 := IntWalk.i64_in _ (by omega)
        by_cases heq : ls[k - 1] = ls[k]
        · have HQ : Hid (decide (ls[k] = ls[k - 1]) = true) := decide_eq_true heq.symm
          have HE := Lib.hid heq
          clear heq
          go_wp2_with fail
          go_quiet ((go_at_call 30; exact eq_quiet A1 A0 _ _ c1 c0 _ ls[k] ls[k - 1] _ true rfl rfl r1' r0' HQ.out))
          have hownY : (wr.drewN nq).ownsRow w.heap.size 24 1 (.slice (some ⟨g, 0, none⟩) ls.length cap) ls.length xs := hown
          have hbY := below_drewN hbr nq
          have S0 : CRel2 g cap k xs ls w (.int .i64 k) (.int .i64 (1 : Nat)) (wr.drewN nq) := by
            have hxl : xs.length = ls.length := hbs.1
            refine ⟨k, 1, xs, rfl, rfl, Nat.le_refl _, by omega, by omega, hxl, ?_, fun _ _ => rfl, hownY, hbY⟩
            have e := HC.out
            rw [if_pos HE.out, HA.out] at e
            rw [e]
            exact hbs.takeB k
          have hcap : ls.length ≤ cap := by
            rcases hown.2 with ⟨h', _⟩ | ⟨g', cap', cur, h', hb, hg, hnc, hcm, hcs, htake⟩
            · cases h'
            · simp only [Value.slice.injEq, Option.some.injEq, Addr.mk.injEq, and_true, true_and] at h'
              obtain ⟨rfl, rfl⟩ := h'
              exact hnc
          clear hown hbr cell1 cell0 r1' r0' hx1 hx0 b1 b0 r1 r0 hownY hbY HC HA HQ HE hk0 hkw
          generalize wr.drewN nq = wy at *
          have hck : ¬ cap = k := by omega
          have hgg0 : w.heap.size ≤ g := hgg.1
          go_wp2_with fail
          go_loopw [5, 7] (fun i j wr => CRel2 g cap k xs ls w i j wr) (fun _ j _ => ls.length - (intOf j).toNat)
          case atStart => exact S0
          case round =>
            clear S0
            obtain ⟨kk, k2, ys, rfl, rfl, h1, h2', h3, h4, h5, h6, hown, hbr⟩ := hrel
            have H6 := Lib.hid h6
            have H4 := Lib.hid h4
            clear h6 h4
            by_cases hlt2 : k + k2 < ls.length
            · obtain ⟨A1, c1, hx1, b1, r1⟩ := hbs.at_ hlt2
              obtain ⟨A0, c0, hx0, b0, r0⟩ := hbs.at_ (k := k + k2 - 1) (by omega)
              have cell1 : wr.cell? ⟨g, k + k2, none⟩ = some (.slice A1 ls[k + k2].length c1) := (hown.cellAt (k + k2) (by omega)).trans ((H6.out _ (by omega)).trans hx1)
              have cell0 : wr.cell? ⟨g, k + (k2 - 1), none⟩ = some (.slice A0 ls[k + k2 - 1].length c0) := by
                rw [show k + (k2 - 1) = k + k2 - 1 by omega]
                exact (hown.cellAt (k + k2 - 1) (by omega)).trans ((H6.out _ (by omega)).trans hx0)
              have r1' := r1.below hbr
              have r0' := r0.below hbr
              have HC := Lib.hid (compact_take (ls := ls) (k := k + k2) (by omega) hlt2)
              have hk0 : ((k2 : Int) - 1).toNat = k2 - 1 := by omega
              have hkw : IntKind.i64.wrap ((k2 : Int) - 1) = (k2 : Int) - 1 := IntWalk.i64_in _ (by omega)
              have hb1 : (k2 : Int) < ((ls.length - k : Nat) : Int) := by omega
              have hb0 : (k2 : Int) - 1 < ((ls.length - k : Nat) : Int) := by omega
              have hb2 : k2 < ls.length - k := by omega
              by_cases heq : ls[k + k2 - 1] = ls[k + k2]
              · have HQ : Hid (decide (ls[k + k2] = ls[k + k2 - 1]) = true) := decide_eq_true heq.symm
                have R : ∀ q, CRel2 g cap k xs ls w (.int .i64 kk) (.int .i64 (k2 + 1 : Nat)) (wr.drewN q) := fun q => by
                  refine ⟨kk, k2 + 1, ys, rfl, rfl, by omega, by omega, by omega, H4.out, ?_, fun a ha => H6.out a (by omega), hown, below_drewN hbr q⟩
                  have e := HC.out
                  rw [if_pos heq] at e
                  rw [show k + (k2 + 1) = k + k2 + 1 by omega, e]
                  exact h5
                have RR := Lib.hid R
                clear heq R hown hbr h5 HC
                go_wp2_with fail
                go_quiet ((go_at_call 30; exact eq_quiet A1 A0 _ _ c1 c0 _ ls[k + k2] ls[k + k2 - 1] _ true rfl rfl r1' r0' HQ.out))
                go_wp2_with fail
                go_roundw
                case rel => exact RR.out _
                case measure => simp [intOf]; omega
              · have HQ : Hid (decide (ls[k + k2] = ls[k + k2 - 1]) = false) := decide_eq_false (fun e => heq e.symm)
                have HL := Lib.hid (store_round (g := g) (cap := cap) hlt2 h1 h3 H4.out h5 H6.out hown hbr HC.out heq b1 hgg0)
                obtain ⟨cellk, frzk⟩ : (∃ u, wr.cell? ⟨g, kk, none⟩ = some u) ∧ wr.frozen? ⟨g, kk, none⟩ = false :=
                  ⟨⟨ys[kk]'(by rw [H4.out]; omega), by rw [hown.cellAt kk (by omega), List.getElem?_eq_getElem]⟩, hown.frozenAt kk⟩
                obtain ⟨uk, cellk⟩ := cellk
                have hb3 : (kk : Int) < (ls.length : Int) := by omega
                clear heq hown hbr h5 HC
                go_wp2_with fail
                go_quiet ((go_at_call 30; exact eq_quiet A1 A0 _ _ c1 c0 _ ls[k + k2] ls[k + k2 - 1] _ false rfl rfl r1' r0' HQ.out))
                go_wp2_with fail
                go_roundw
                case rel => exact HL.out _
                case measure => simp [intOf]; omega
            · have hend : k + k2 = ls.length := by omega
              obtain ⟨i0, hi, hz0, hz1, hz2⟩ := info_parts Try.infoBs
              have hzv : ∀ w, (zeroValue 24).run Try.prog w = .ok (.slice none 0 0) w := fun w => by simp [zeroValue, typeInfo, hi, hz0]
              have hyl := H4.out
              have hcl : ∀ ty, (Builtin.clear_ #[22] ty #[.slice (some ⟨g, kk, none⟩) (ls.length - kk) (cap - kk)]).run Try.prog wr = .ok (.tuple #[]) (wr.setCells g kk (List.replicate (ls.length - kk) (.slice none 0 0))) :=
                fun ty => Lib.run_clear_slice wr _ _ ty _ Try.underlying22 hzv rfl rfl g kk _ _ (by omega) (fun j hj => by rw [hown.cellAt (kk + j) (by omega), List.getElem?_eq_getElem (by omega)]; rfl) (fun j hj => hown.frozenAt _)
              have R : LeftT (compact ls) w (.returned (.slice (some ⟨g, 0, none⟩) kk cap)) (wr.setCells g kk (List.replicate (ls.length - kk) (.slice none 0 0))) := by
                have h5' := h5
                rw [hend, List.take_length] at h5'
                have hkl : (compact ls).length = kk := by rw [← h5'.1, List.length_take]; omega
                refine ⟨_, ys.take kk, rfl, ?_, h5', below_setC hgg0 _ _ hbr⟩
                rw [hkl]
                exact own_cleared hown (by omega) _ _ (Nat.le_refl _)
              clear hown hbr h5 hi hz0 hz1 hz2 hzv hend hyl
              have hck2 : ¬ cap = kk := by omega
              have hck3 : kk ≤ cap := by omega
              go_wp2_with fail
              go_ret
              exact R
        · have HQ : Hid (decide (ls[k] = ls[k - 1]) = false) := decide_eq_false (fun e => heq e.symm)
          have R : ∀ q, CRel1 g cap xs ls w (.int .i64 (k + 1 : Nat)) (wr.drewN q) := fun q => by
            refine ⟨k + 1, by omega, by omega, rfl, ?_, hown, below_drewN hbr q⟩
            have e := HC.out
            rw [if_neg heq, HA.out] at e
            rw [e, List.take_succ_eq_append_getElem hlt]
          have RR := Lib.hid R
          clear heq R hown hbr HC
          go_wp2_with fail
          go_quiet ((go_at_call 30; exact eq_quiet A1 A0 _ _ c1 c0 _ ls[k] ls[k - 1] _ false rfl rfl r1' r0' HQ.out))
          go_wp2_with fail
          go_roundw
          case rel => exact RR.out _
          case measure => simp [intOf]; omega
      · have he : k = ls.length := by omega
        subst he
        have R : LeftT (compact ls) w (.returned (.slice (some ⟨g, 0, none⟩) ls.length cap)) wr := by
          have e := HA.out
          rw [List.take_length] at e
          rw [e]
          exact ⟨_, xs, rfl, hown, hbs, hbr⟩
        clear hown hbr
        go_wp2_with fail
        go_ret
        exact R

end Go.Proofs.Ytjfiokcgmmmboaa
