/-
  Words and contracts that the proof leans on.
-/
import Derived.Test.YtncbhnmhaoblaaaM27
import Derived.Test.YtncbhnmhaoblaaaM34
import Derived.Test.YtncbhnmhaoblaaaM4
import Derived.BigRegion
namespace Go.Proofs.Ytncbhnmhaoblaaa
open Go.RowKit

/-- What advance leaves: the row lies where it lay, its bits are the next row's. -/
def AdMade (lo W N : Nat) (v : Nat → Bool) (u : List Nat) (row : Value) (w : World) (e : Ending) (w' : World) : Prop :=
  e = .returned (.tuple #[]) ∧ w.grownBy w' row.ownBlock ∧ ∃ z, z.length = W ∧ Wd z ∧ (∀ j, bt z j = (decide (j < 64 * W) && rowF N v (bt u) j)) ∧ w'.ownsRow lo 71 1 row W (uv z)
/-- The head of a round. -/
def AdRel (lo : Nat) (x y : List Nat) (row : Value) (w : World) (c i : Value) (wr : World) : Prop :=
  ∃ k : Nat, k ≤ x.length ∧ i = .int .i64 (k : Int) ∧ c = .int .u64 (cw x (bothW x y) k : Nat) ∧ wr.ownsRow lo 71 1 row x.length (uv (curL k (hyW x y) x)) ∧ w.grownBy wr row.ownBlock
theorem ad_next {lo k c : Nat} {x y : List Nat} {g : Nat} {w wr : World} {s t : Nat} (hk : k < x.length) (own : wr.ownsRow lo 71 1 (.slice (some ⟨g, 0, none⟩) x.length c) x.length (uv (curL k (hyW x y) x))) (hg : w.grownBy wr (Value.slice (some ⟨g, 0, none⟩) x.length c).ownBlock) (hs : hyW x y k = s) (ht : cw x (bothW x y) (k + 1) = t) :
    AdRel lo x y (.slice (some ⟨g, 0, none⟩) x.length c) w (.int .u64 (t : Nat)) (.int .i64 (k + 1 : Nat)) (wr.setCell ⟨g, k, none⟩ (.int .u64 (s : Nat))) := by
  subst hs
  subst ht
  have h := own_setS own k (.int .u64 (hyW x y k : Nat))
  rw [curL_set] at h
  exact ⟨k + 1, hk, rfl, rfl, h, grown_setS hg (.inl rfl)⟩
theorem grown_below {w w1 w2 : World} {b : Option Nat} (h : w.grownBy w1 b) (hb : Below w1.heap.size w1 w2) : w.grownBy w2 b :=
  ⟨hb.os.trans h.os, hb.tape.trans h.tape, hb.output.trans h.output, Nat.le_trans h.size hb.size, fun i hi hne => (hb.block i (Nat.lt_of_lt_of_le hi h.size)).trans (h.block i hi hne)⟩
theorem grown_drw {w w1 : World} {b : Option Nat} (h : w.grownBy w1 b) : w.grownBy w1.drew b := ⟨h.os, h.tape, h.output, h.size, h.block⟩
theorem ad_drew {lo W N : Nat} {v : Nat → Bool} {u : List Nat} {row : Value} {w w' : World} {e : Ending} (h : AdMade lo W N v u row w e w') : AdMade lo W N v u row w e w'.drew := by
  obtain ⟨h1, h2, z, h3, h4, h5, h6⟩ := h
  exact ⟨h1, grown_drw h2, z, h3, h4, h5, h6.drew⟩
theorem row_far {w w1 : World} {A : Option Addr} {y : List Nat} {b : Option Nat} (h : Row w A (uv y)) (hg : w.grownBy w1 b) (hne : y ≠ [] → ∀ a, A = some a → some a.block ≠ b) : Row w1 A (uv y) := by
  by_cases hy : y = []
  · subst hy
    exact Row.nil _ _
  · exact h.grown hg (hne hy)
theorem row_old {w : World} {A : Option Addr} {y : List Nat} (h : Row w A (uv y)) (hy : y ≠ []) : ∀ a, A = some a → a.block < w.heap.size := fun a e => by
  obtain ⟨g, o, e', hc⟩ := h.word (k := 0) (List.length_pos_iff.2 hy)
  rw [e] at e'
  cases e'
  exact World.block_lt_of_cell? _ _ hc
theorem own_all {lo : Nat} {x y : List Nat} {row : Value} {wr : World} (own : wr.ownsRow lo 71 1 row x.length (uv (curL x.length (hyW x y) x))) : wr.ownsRow lo 71 1 row x.length (uv ((List.range x.length).map (hyW x y))) := by
  rwa [curL_all] at own
theorem ad_keep {lo N : Nat} {v : Nat → Bool} {x y : List Nat} {row : Value} {w wr : World} (wx : Wd x) (hx : ∀ j, bt x j = cutB N v j) (h : N < 64 * x.length → hyB x y N = false) (own : wr.ownsRow lo 71 1 row x.length (uv ((List.range x.length).map (hyW x y)))) (hg : w.grownBy wr row.ownBlock) :
    AdMade lo x.length N v y row w (.returned (.tuple #[])) wr :=
  ⟨rfl, hg, _, by simp, map_wd _ (hyW_lt y wx), map_bt _ fun j hj => by rw [hyW_bit y wx, hy_keep hx h j hj], own⟩
theorem ad_clear {lo N g c : Nat} {v : Nat → Bool} {x y : List Nat} {w wr : World} (wx : Wd x) (hx : ∀ j, bt x j = cutB N v j) (own : wr.ownsRow lo 71 1 (.slice (some ⟨g, 0, none⟩) x.length c) x.length (uv ((List.range x.length).map (hyW x y)))) (hg : w.grownBy wr (Value.slice (some ⟨g, 0, none⟩) x.length c).ownBlock) {z : Int} (hz : z = ((hyW x y (N / 64) &&& (18446744073709551615 - 2 ^ (N % 64)) : Nat) : Int)) :
    AdMade lo x.length N v y (.slice (some ⟨g, 0, none⟩) x.length c) w (.returned (.tuple #[])) (wr.setCell ⟨g, N / 64, none⟩ (.int .u64 z)) := by
  subst hz
  refine ⟨rfl, grown_setS hg (.inl rfl), (List.range x.length).map (hyC N x y), by simp, map_wd _ (hyC_lt wx), map_bt _ fun j _ => hyC_bit wx hx j, ?_⟩
  have h := own_setS own (N / 64) (.int .u64 ((hyW x y (N / 64) &&& (18446744073709551615 - 2 ^ (N % 64)) : Nat) : Int))
  refine (congrArg (fun l => World.ownsRow _ lo 71 1 (.slice (some ⟨g, 0, none⟩) x.length c) x.length l) ?_).mp h
  apply List.ext_getElem?
  intro i
  rw [List.getElem?_set]
  simp only [uv, List.map_map, List.getElem?_map, List.length_map, List.length_range]
  by_cases hi : i < x.length
  · rw [List.getElem?_range hi]
    by_cases e : N / 64 = i
    · subst e
      simp [hi, hyC]
    · rw [if_neg e]
      simp only [Option.map_some, Function.comp, hyC]
      rw [if_neg (fun e' => e e'.symm)]
  · rw [List.getElem?_eq_none (by simp; omega)]
    by_cases e : N / 64 = i
    · rw [if_pos e, if_neg (by omega)]; rfl
    · rw [if_neg e]; rfl
theorem bt_hy {x y : List Nat} (wx : Wd x) {j : Nat} (h : j < 64 * x.length) : bt ((List.range x.length).map (hyW x y)) j = hyB x y j := by
  rw [map_bt x.length (fun j _ => hyW_bit y wx j), decide_eq_true h, Bool.true_and]

set_option maxRecDepth 100000 in
set_option maxHeartbeats 3200000 in
theorem hadvance_any (lo W n c : Nat) (row : Value) (A : Option Addr) (x y : List Nat) (v : Nat → Bool) (m : Int) (w : World) (hW : x.length = W) (hWm : wdsVc3 m = W) (hn : y.length = n) (hb : n ≤ 16384) (hI : I64 m) (wx : Wd x) (wy : Wd y) (hx : ∀ j, bt x j = cutB (wid m) v j)
    (own : w.ownsRow lo 71 1 row W (uv x)) (hy : Row w A (uv y)) (hA : y ≠ [] → ∀ a, A = some a → some a.block ≠ row.ownBlock) :
    Calls Try.prog 46 #[row, .slice A n c, .int .i64 m] w (AdMade lo W (wid m) v y row w) := by
  subst hW
  obtain ⟨B, d, rfl, hd, hdm, _, _⟩ := own_slice own
  have HN := Lib.hid hn
  have hWl := wds_le m
  have HWW : Hid (wid m ≤ 64 * x.length) := by show _ ≤ _; rw [← hWm]; exact wds_wid m
  have HWM := Lib.hid hWm
  rw [hWm] at hWl
  have HI := Lib.hid hI
  have HWX := Lib.hid wx
  have HX := Lib.hid hx
  have HK := Lib.hid (fun wr h => ad_keep (lo := lo) (row := .slice B x.length d) (w := w) (wr := wr) wx hx h (y := y))
  clear hn hx hI hWm
  go_enter Try.func46, Try.ntmps46
  go_wp2_with fail
  go_loopw [7, 13] (fun c i wr => AdRel lo x y (.slice B x.length d) w c i wr) (fun _ i _ => x.length - (intOf i).toNat)
  case atStart => exact ⟨0, Nat.zero_le _, rfl, rfl, by rw [curL_none]; exact own, World.grownBy.refl _ _⟩
  case round =>
    clear own
    obtain ⟨k, hk, rfl, rfl, own, hg⟩ := hrel
    by_cases hlt : k < x.length
    · obtain ⟨g, d', e, hfz, hlo, hgl⟩ := own_posS own (by omega)
      have e1 : B = some ⟨g, 0, none⟩ := by injection e
      have e2 : d = d' := by injection e
      subst e1
      subst e2
      have hcell : wr.cell? ⟨g, k, none⟩ = some (.int .u64 (wd x k : Nat)) := by
        have := own.cells (g := g) rfl k _ (curL_at (hyW x y) hlt)
        simpa [Addr.add_lit] using this
      have hf := hfz k
      have ry := row_far hy hg hA
      have hadd := add64 (wd x k) (wd x k &&& wd y k) (cw x (bothW x y) k) (wd_lt wx k) (Nat.lt_of_le_of_lt Nat.and_le_left (wd_lt wx k)) (cw_le wx (both_wd y wx) k)
      have R := fun s t hs ht => ad_next (s := s) (t := t) hlt own hg hs ht
      have eS : (wd x k + (wd x k &&& wd y k) + cw x (bothW x y) k) % 18446744073709551616 = addW x (bothW x y) k := by unfold addW; rw [wd_both]
      have eC : (wd x k + (wd x k &&& wd y k) + cw x (bothW x y) k) / 18446744073709551616 = cw x (bothW x y) (k + 1) := by rw [cw, wd_both]
      rw [eS, eC] at hadd
      have hle : wd x k &&& wd y k ≤ wd x k := Nat.and_le_left
      have h1 := wd_lt wx k
      have h2 := wd_lt wy k
      have h3 : addW x (bothW x y) k < 18446744073709551616 := Nat.mod_lt _ (by decide)
      have hand := u64_and_nat (wd x k) (wd y k) h1 h2
      have hor := u64_or_nat (addW x (bothW x y) k) (wd x k - (wd x k &&& wd y k)) h3 (by omega)
      have R' := Lib.hid (R _ _ rfl rfl)
      rw [show hyW x y k = addW x (bothW x y) k ||| (wd x k - (wd x k &&& wd y k)) from rfl] at R'
      clear R eS eC
      by_cases hky : k < y.length
      · obtain ⟨gy, oy, rfl, hcy⟩ := ry.word hky
        rw [wd_in hky] at hcy
        have hkn : k < n := by rw [← HN.out]; exact hky
        have esub : ((wd x k : Nat) : Int) - ((wd x k &&& wd y k : Nat) : Int) = ((wd x k - (wd x k &&& wd y k) : Nat) : Int) := by omega
        clear own hg hy ry hA HK hfz hky
        generalize wd x k &&& wd y k = z at *
        generalize wd x k = a at *
        generalize wd y k = b at *
        generalize addW x (bothW x y) k = s at *
        generalize cw x (bothW x y) (k + 1) = c1 at *
        generalize cw x (bothW x y) k = c0 at *
        generalize a - z = dz at *
        generalize s ||| dz = q at *
        go_wp2_with fail
        go_roundw
        case rel => first | exact R'.out | ((repeat apply Exists.intro); exact ⟨R'.out, rfl⟩)
        case measure => simp [intOf]; omega
      · have hkn : ¬ k < n := by rw [← HN.out]; exact hky
        have ez : wd x k &&& wd y k = 0 := by rw [← wd_out (x := y) (by omega)]; simp
        rw [ez] at hadd hor R' hle
        rw [show ((0 : Nat) : Int) = 0 from rfl] at hadd
        rw [Nat.sub_zero] at hor R'
        clear own hg hy ry hA HK hfz hky hand ez
        generalize wd x k = a at *
        generalize wd y k = b at *
        generalize addW x (bothW x y) k = s at *
        generalize cw x (bothW x y) (k + 1) = c1 at *
        generalize cw x (bothW x y) k = c0 at *
        generalize s ||| a = q at *
        go_wp2_with fail
        go_roundw
        case rel => first | exact R'.out | ((repeat apply Exists.intro); exact ⟨R'.out, rfl⟩)
        case measure => simp [intOf]; omega
    · have hkb : k = x.length := by omega
      subst hkb
      have own1 := own_all own
      have hr1 : Row wr B (uv ((List.range x.length).map (hyW x y))) := Row.of_own own1
      have hG := Lib.hid (pget B x.length d m ((List.range x.length).map (hyW x y)) wr (by simp) (by omega) hd hdm HI.out hr1 (map_wd _ (hyW_lt y wx)))
      have HO := Lib.hid own1
      have HG := Lib.hid hg
      clear own own1 hr1 hg hy hA hlt hk
      by_cases hin : 0 ≤ m ∧ m < 64 * (x.length : Int) ∧ hyB x y m.toNat = true
      · obtain ⟨M, rfl⟩ := Int.eq_ofNat_of_zero_le hin.1
        have hM : M < 64 * x.length := by omega
        have hMw : wid (M : Int) = M := by unfold wid; rw [if_neg (by omega), if_neg (by omega)]; omega
        have hbit : btI ((List.range x.length).map (hyW x y)) (M : Int) = true := by
          rw [btI_nat, bt_hy wx hM]
          have := hin.2.2
          simpa using this
        rw [hbit] at hG
        clear hbit
        have hX := HX.out
        have HMw := Lib.hid hMw.symm
        rw [hMw] at hX
        go_wp2_with fail
        refine hG.out.mono ?_
        rintro e w2 ⟨rfl, hb2⟩
        have own2 := own_below HO.out hb2 (Nat.le_refl _)
        have hg2 := grown_below HG.out hb2
        obtain ⟨g, d', e, hfz, hlo, hgl⟩ := own_posS own2 (by omega)
        have e1 : B = some ⟨g, 0, none⟩ := by injection e
        have e2 : d = d' := by injection e
        subst e1
        subst e2
        obtain ⟨q, hq⟩ : ∃ q, M / 64 = q := ⟨_, rfl⟩
        obtain ⟨s, hs⟩ : ∃ s, M % 64 = s := ⟨_, rfl⟩
        have hql : q < x.length := by omega
        have hcell : w2.cell? ⟨g, q, none⟩ = some (.int .u64 (hyW x y q : Nat)) := by
          have := own2.cells (g := g) rfl q (.int .u64 (hyW x y q : Nat)) (by simp [uv, hql])
          simpa [Addr.add_lit] using this
        have hf := hfz q
        have HF := Lib.hid (fun z hz => ad_drew (ad_clear (z := z) (N := M) (v := v) wx hX own2 hg2 hz))
        rw [hq, hs] at HF
        have h1 := hyW_lt y wx q
        have h64 : s < 64 := by omega
        have h2 : 2 ^ s < 18446744073709551616 := Nat.lt_of_lt_of_le (Nat.pow_lt_pow_right (by decide) h64) (by decide)
        have HE := Lib.hid (u64_andNot_nat (hyW x y q) (2 ^ s) h1 h2)
        have HP := Lib.hid (pow_wrap s h64)
        have z1 : (M : Int) / 64 = (q : Int) := by omega
        have z2 : (M : Int) % 64 = (s : Int) := by omega
        have zq := IntWalk.i64_in (q : Int) (by omega)
        clear own2 hg2 hb2 HO HG hG hin hX HX HK hfz h2 hq hs hM hMw e HWW HWM
        generalize hyW x y q = u at *
        go_wp2_with fail
        go_region
        go_wp2_with fail
        go_end0
        refine (congrArg (fun N => AdMade lo x.length N v y _ w _ _) HMw.out).mp (HF.out _ ?_)
        rw [HP.out, HE.out]
      · have hbit : btI ((List.range x.length).map (hyW x y)) m = false ∧ (wid m < 64 * x.length → hyB x y (wid m) = false) := by
          by_cases h0 : 0 ≤ m
          · obtain ⟨M, rfl⟩ := Int.eq_ofNat_of_zero_le h0
            rw [btI_nat]
            by_cases h1 : M < 64 * x.length
            · have hMw : wid (M : Int) = M := by unfold wid; rw [if_neg (by omega), if_neg (by omega)]; omega
              have h3 : hyB x y M = false := by
                cases h : hyB x y M with
                | false => rfl
                | true => exact absurd ⟨h0, by omega, by simpa using h⟩ hin
              rw [bt_hy wx h1, hMw]
              exact ⟨h3, fun _ => h3⟩
            · refine ⟨bt_out (by simp; omega), fun h => ?_⟩
              exfalso
              have h4 := HWM.out
              unfold wdsVc3 at h4
              unfold wid at h h4
              split at h
              · omega
              · split at h
                · omega
                · omega
          · refine ⟨by unfold btI; rw [decide_eq_false h0, Bool.false_and], fun h => ?_⟩
            exfalso
            have h4 := HWM.out
            unfold wdsVc3 at h4
            unfold wid at h h4
            rw [if_pos (by omega)] at h h4
            omega
        have HB := Lib.hid hbit.2
        rw [hbit.1] at hG
        clear hbit hin
        go_wp2_with fail
        refine hG.out.mono ?_
        rintro e w2 ⟨rfl, hb2⟩
        have HF := Lib.hid (HK.out w2 HB.out (own_below HO.out hb2 (Nat.le_refl _)) (grown_below HG.out hb2))
        clear hb2 HO HG HB HK hG
        go_wp2_with fail
        go_end0
        exact HF.out

end Go.Proofs.Ytncbhnmhaoblaaa

namespace Go.Proofs.Ytncbhnmhaoblaaa
open Go.RowKit

set_option maxRecDepth 100000 in
set_option maxHeartbeats 1600000 in
theorem hrow_any (A B : Option Addr) (n k c d : Nat) (x y : List Nat) (m : Int) (w : World) (hn : x.length = n) (hk : y.length = k) (hb : n ≤ 16384) (hb' : k ≤ 16384) (hc : n ≤ c) (hcm : c ≤ maxLen) (hI : I64 m) (rx : Row w A (uv x)) (ry : Row w B (uv y)) (wx : Wd x) (wy : Wd y) :
    Calls Try.prog 34 #[.slice A n c, .slice B k d, .int .i64 m] w (MadeV (wdsVc3 m) (rowF (wid m) (bt x) (bt y)) w) := by
  have HF := Lib.hid (pfit A n c x m w hn hb hc hcm hI rx wx)
  have HN := Lib.hid (wds_wid m)
  have HK := Lib.hid hk
  have HI := Lib.hid hI
  clear hn hc hcm rx hI hk
  go_enter Try.func34, Try.ntmps34
  go_wp2_with fail
  refine HF.out.mono ?_
  rintro e w1 ⟨v, z, rfl, hz, wz, bz, own, hb1⟩
  have ry1 := ry.below hb1
  have hlt := own.lt
  have own' := own
  rw [hz] at own'
  obtain ⟨V, cV, rfl, _, _, _, _⟩ := own_slice own'
  have hAd := hadvance_any w.heap.size (wdsVc3 m) k d (.slice V (wdsVc3 m) cV) B z y (bt x) m w1 hz rfl HK.out hb' HI.out wz wy (fun j => by
    rw [bz]
    unfold cutB
    by_cases h : j < 64 * wdsVc3 m
    · rw [decide_eq_true h, Bool.true_and]
    · rw [decide_eq_false h, decide_eq_false (by have := HN.out; omega)]; rfl) own' ry1 (fun hne a e e2 => by
    have h1 := row_old ry hne a e
    have h2 := (hlt a.block e2.symm).1
    omega)
  have HG := Lib.hid (fun wr (hg : w1.grownBy wr (Value.slice V (wdsVc3 m) cV).ownBlock) => hb1.grown hg hb1.size (fun g e => (hlt g e).1))
  clear HF wz bz own own' hlt ry ry1 hb1 hz
  generalize wdsVc3 m = W at *
  go_wp2_with fail
  refine hAd.mono ?_
  rintro e w2 ⟨rfl, hg, q, hq, wq, bq, own⟩
  have HQ : Hid (MadeV W (rowF (wid m) (bt x) (bt y)) w (.returned (.slice V W cV)) w2) := ⟨_, q, rfl, hq, wq, bq, by rw [hq]; exact own, HG.out w2 hg⟩
  clear hg hq wq bq own HG
  go_wp2_with fail
  go_ret
  exact HQ.out

end Go.Proofs.Ytncbhnmhaoblaaa

namespace Go.Proofs.Ytncbhnmhaoblaaa
open Go.RowKit

/-- What is not held by the other word is what is left when that which both hold is taken away. -/
theorem u64_andNot_sub {a b : Nat} (ha : a < 18446744073709551616) (hb : b < 18446744073709551616) : bits .andNot .u64 (a : Int) (b : Int) = ((a - (a &&& b) : Nat) : Int) := by
  rw [u64_andNot_nat a b ha hb]
  congr 1
  apply Nat.eq_of_testBit_eq
  intro i
  have h := Nat.testBit_two_pow_sub_succ (n := 64) (x := b) hb i
  have e : 2 ^ 64 - (b + 1) = 18446744073709551615 - b := by omega
  rw [e] at h
  rw [sub_and_bit, Nat.testBit_and, h]
  by_cases hi : i < 64
  · rw [decide_eq_true hi, Bool.true_and]
  · rw [Nat.testBit_lt_two_pow (Nat.lt_of_lt_of_le ha (Nat.pow_le_pow_right (n := 2) (by decide) (show 64 ≤ i by omega)))]
    simp

set_option maxRecDepth 100000 in
set_option maxHeartbeats 3200000 in
theorem cadvance_any (lo W n c : Nat) (row : Value) (A : Option Addr) (x y : List Nat) (v : Nat → Bool) (m : Int) (w : World) (hW : x.length = W) (hWm : wdsVc3 m = W) (hn : y.length = n) (hb : n ≤ 16384) (hI : I64 m) (wx : Wd x) (wy : Wd y) (hx : ∀ j, bt x j = cutB (wid m) v j)
    (own : w.ownsRow lo 71 1 row W (uv x)) (hy : Row w A (uv y)) (hA : y ≠ [] → ∀ a, A = some a → some a.block ≠ row.ownBlock) :
    Calls Try.prog 47 #[row, .slice A n c, .int .i64 m] w (AdMade lo W (wid m) v y row w) := by
  subst hW
  obtain ⟨B, d, rfl, hd, hdm, _, _⟩ := own_slice own
  have HN := Lib.hid hn
  have hWl := wds_le m
  have HWW : Hid (wid m ≤ 64 * x.length) := by show _ ≤ _; rw [← hWm]; exact wds_wid m
  have HWM := Lib.hid hWm
  rw [hWm] at hWl
  have HI := Lib.hid hI
  have HWX := Lib.hid wx
  have HX := Lib.hid hx
  have HK := Lib.hid (fun wr h => ad_keep (lo := lo) (row := .slice B x.length d) (w := w) (wr := wr) wx hx h (y := y))
  clear hn hx hI hWm
  go_enter Try.func47, Try.ntmps47
  go_wp2_with fail
  go_loopw [7, 13] (fun c i wr => AdRel lo x y (.slice B x.length d) w c i wr) (fun _ i _ => x.length - (intOf i).toNat)
  case atStart => exact ⟨0, Nat.zero_le _, rfl, rfl, by rw [curL_none]; exact own, World.grownBy.refl _ _⟩
  case round =>
    clear own
    obtain ⟨k, hk, rfl, rfl, own, hg⟩ := hrel
    by_cases hlt : k < x.length
    · obtain ⟨g, d', e, hfz, hlo, hgl⟩ := own_posS own (by omega)
      have e1 : B = some ⟨g, 0, none⟩ := by injection e
      have e2 : d = d' := by injection e
      subst e1
      subst e2
      have hcell : wr.cell? ⟨g, k, none⟩ = some (.int .u64 (wd x k : Nat)) := by
        have := own.cells (g := g) rfl k _ (curL_at (hyW x y) hlt)
        simpa [Addr.add_lit] using this
      have hf := hfz k
      have ry := row_far hy hg hA
      have hadd := add64 (wd x k) (wd x k &&& wd y k) (cw x (bothW x y) k) (wd_lt wx k) (Nat.lt_of_le_of_lt Nat.and_le_left (wd_lt wx k)) (cw_le wx (both_wd y wx) k)
      have R := fun s t hs ht => ad_next (s := s) (t := t) hlt own hg hs ht
      have eS : (wd x k + (wd x k &&& wd y k) + cw x (bothW x y) k) % 18446744073709551616 = addW x (bothW x y) k := by unfold addW; rw [wd_both]
      have eC : (wd x k + (wd x k &&& wd y k) + cw x (bothW x y) k) / 18446744073709551616 = cw x (bothW x y) (k + 1) := by rw [cw, wd_both]
      rw [eS, eC] at hadd
      have hle : wd x k &&& wd y k ≤ wd x k := Nat.and_le_left
      have h1 := wd_lt wx k
      have h2 := wd_lt wy k
      have h3 : addW x (bothW x y) k < 18446744073709551616 := Nat.mod_lt _ (by decide)
      have hand := u64_and_nat (wd x k) (wd y k) h1 h2
      have hnot := u64_andNot_sub h1 h2
      have hor := u64_or_nat (addW x (bothW x y) k) (wd x k - (wd x k &&& wd y k)) h3 (by omega)
      have R' := Lib.hid (R _ _ rfl rfl)
      rw [show hyW x y k = addW x (bothW x y) k ||| (wd x k - (wd x k &&& wd y k)) from rfl] at R'
      clear R eS eC
      by_cases hky : k < y.length
      · obtain ⟨gy, oy, rfl, hcy⟩ := ry.word hky
        rw [wd_in hky] at hcy
        have hkn : k < n := by rw [← HN.out]; exact hky
        clear own hg hy ry hA HK hfz hky
        generalize wd x k &&& wd y k = z at *
        generalize wd x k = a at *
        generalize wd y k = b at *
        generalize addW x (bothW x y) k = s at *
        generalize cw x (bothW x y) (k + 1) = c1 at *
        generalize cw x (bothW x y) k = c0 at *
        generalize a - z = dz at *
        generalize s ||| dz = q at *
        go_wp2_with fail
        go_roundw
        case rel => first | exact R'.out | ((repeat apply Exists.intro); exact ⟨R'.out, rfl⟩)
        case measure => simp [intOf]; omega
      · have hkn : ¬ k < n := by rw [← HN.out]; exact hky
        have ez : wd x k &&& wd y k = 0 := by rw [← wd_out (x := y) (by omega)]; simp
        have hy0 : wd y k = 0 := (wd_out (x := y) (by omega)).symm
        rw [ez] at hadd hor R' hle hand hnot
        rw [hy0] at hand hnot
        rw [show ((0 : Nat) : Int) = 0 from rfl] at hand hnot
        rw [Nat.sub_zero] at hnot
        rw [show ((0 : Nat) : Int) = 0 from rfl] at hadd
        rw [Nat.sub_zero] at hor R'
        clear own hg hy ry hA HK hfz hky ez hy0
        generalize wd x k = a at *
        generalize wd y k = b at *
        generalize addW x (bothW x y) k = s at *
        generalize cw x (bothW x y) (k + 1) = c1 at *
        generalize cw x (bothW x y) k = c0 at *
        generalize s ||| a = q at *
        go_wp2_with fail
        go_roundw
        case rel => first | exact R'.out | ((repeat apply Exists.intro); exact ⟨R'.out, rfl⟩)
        case measure => simp [intOf]; omega
    · have hkb : k = x.length := by omega
      subst hkb
      have own1 := own_all own
      have hr1 : Row wr B (uv ((List.range x.length).map (hyW x y))) := Row.of_own own1
      have hG := Lib.hid (pget B x.length d m ((List.range x.length).map (hyW x y)) wr (by simp) (by omega) hd hdm HI.out hr1 (map_wd _ (hyW_lt y wx)))
      have HO := Lib.hid own1
      have HG := Lib.hid hg
      clear own own1 hr1 hg hy hA hlt hk
      by_cases hin : 0 ≤ m ∧ m < 64 * (x.length : Int) ∧ hyB x y m.toNat = true
      · obtain ⟨M, rfl⟩ := Int.eq_ofNat_of_zero_le hin.1
        have hM : M < 64 * x.length := by omega
        have hMw : wid (M : Int) = M := by unfold wid; rw [if_neg (by omega), if_neg (by omega)]; omega
        have hbit : btI ((List.range x.length).map (hyW x y)) (M : Int) = true := by
          rw [btI_nat, bt_hy wx hM]
          have := hin.2.2
          simpa using this
        rw [hbit] at hG
        clear hbit
        have hX := HX.out
        have HMw := Lib.hid hMw.symm
        rw [hMw] at hX
        go_wp2_with fail
        refine hG.out.mono ?_
        rintro e w2 ⟨rfl, hb2⟩
        have own2 := own_below HO.out hb2 (Nat.le_refl _)
        have hg2 := grown_below HG.out hb2
        obtain ⟨g, d', e, hfz, hlo, hgl⟩ := own_posS own2 (by omega)
        have e1 : B = some ⟨g, 0, none⟩ := by injection e
        have e2 : d = d' := by injection e
        subst e1
        subst e2
        obtain ⟨q, hq⟩ : ∃ q, M / 64 = q := ⟨_, rfl⟩
        obtain ⟨s, hs⟩ : ∃ s, M % 64 = s := ⟨_, rfl⟩
        have hql : q < x.length := by omega
        have hcell : w2.cell? ⟨g, q, none⟩ = some (.int .u64 (hyW x y q : Nat)) := by
          have := own2.cells (g := g) rfl q (.int .u64 (hyW x y q : Nat)) (by simp [uv, hql])
          simpa [Addr.add_lit] using this
        have hf := hfz q
        have HF := Lib.hid (fun z hz => ad_drew (ad_clear (z := z) (N := M) (v := v) wx hX own2 hg2 hz))
        rw [hq, hs] at HF
        have h1 := hyW_lt y wx q
        have h64 : s < 64 := by omega
        have h2 : 2 ^ s < 18446744073709551616 := Nat.lt_of_lt_of_le (Nat.pow_lt_pow_right (by decide) h64) (by decide)
        have HE := Lib.hid (u64_andNot_nat (hyW x y q) (2 ^ s) h1 h2)
        have HP := Lib.hid (pow_wrap s h64)
        have z1 : (M : Int) / 64 = (q : Int) := by omega
        have z2 : (M : Int) % 64 = (s : Int) := by omega
        have zq := IntWalk.i64_in (q : Int) (by omega)
        clear own2 hg2 hb2 HO HG hG hin hX HX HK hfz h2 hq hs hM hMw e HWW HWM
        generalize hyW x y q = u at *
        go_wp2_with fail
        go_region
        go_wp2_with fail
        go_end0
        refine (congrArg (fun N => AdMade lo x.length N v y _ w _ _) HMw.out).mp (HF.out _ ?_)
        rw [HP.out, HE.out]
      · have hbit : btI ((List.range x.length).map (hyW x y)) m = false ∧ (wid m < 64 * x.length → hyB x y (wid m) = false) := by
          by_cases h0 : 0 ≤ m
          · obtain ⟨M, rfl⟩ := Int.eq_ofNat_of_zero_le h0
            rw [btI_nat]
            by_cases h1 : M < 64 * x.length
            · have hMw : wid (M : Int) = M := by unfold wid; rw [if_neg (by omega), if_neg (by omega)]; omega
              have h3 : hyB x y M = false := by
                cases h : hyB x y M with
                | false => rfl
                | true => exact absurd ⟨h0, by omega, by simpa using h⟩ hin
              rw [bt_hy wx h1, hMw]
              exact ⟨h3, fun _ => h3⟩
            · refine ⟨bt_out (by simp; omega), fun h => ?_⟩
              exfalso
              have h4 := HWM.out
              unfold wdsVc3 at h4
              unfold wid at h h4
              split at h
              · omega
              · split at h
                · omega
                · omega
          · refine ⟨by unfold btI; rw [decide_eq_false h0, Bool.false_and], fun h => ?_⟩
            exfalso
            have h4 := HWM.out
            unfold wdsVc3 at h4
            unfold wid at h h4
            rw [if_pos (by omega)] at h h4
            omega
        have HB := Lib.hid hbit.2
        rw [hbit.1] at hG
        clear hbit hin
        go_wp2_with fail
        refine hG.out.mono ?_
        rintro e w2 ⟨rfl, hb2⟩
        have HF := Lib.hid (HK.out w2 HB.out (own_below HO.out hb2 (Nat.le_refl _)) (grown_below HG.out hb2))
        clear hb2 HO HG HB HK hG
        go_wp2_with fail
        go_end0
        exact HF.out

end Go.Proofs.Ytncbhnmhaoblaaa

namespace Go.Proofs.Ytncbhnmhaoblaaa
open Go.RowKit

set_option maxRecDepth 100000 in
set_option maxHeartbeats 1600000 in
theorem crow_any (A B : Option Addr) (n k c d : Nat) (x y : List Nat) (m : Int) (w : World) (hn : x.length = n) (hk : y.length = k) (hb : n ≤ 16384) (hb' : k ≤ 16384) (hc : n ≤ c) (hcm : c ≤ maxLen) (hI : I64 m) (rx : Row w A (uv x)) (ry : Row w B (uv y)) (wx : Wd x) (wy : Wd y) :
    Calls Try.prog 35 #[.slice A n c, .slice B k d, .int .i64 m] w (MadeV (wdsVc3 m) (rowF (wid m) (bt x) (bt y)) w) := by
  have HF := Lib.hid (pfit A n c x m w hn hb hc hcm hI rx wx)
  have HN := Lib.hid (wds_wid m)
  have HK := Lib.hid hk
  have HI := Lib.hid hI
  clear hn hc hcm rx hI hk
  go_enter Try.func35, Try.ntmps35
  go_wp2_with fail
  refine HF.out.mono ?_
  rintro e w1 ⟨v, z, rfl, hz, wz, bz, own, hb1⟩
  have ry1 := ry.below hb1
  have hlt := own.lt
  have own' := own
  rw [hz] at own'
  obtain ⟨V, cV, rfl, _, _, _, _⟩ := own_slice own'
  have hAd := cadvance_any w.heap.size (wdsVc3 m) k d (.slice V (wdsVc3 m) cV) B z y (bt x) m w1 hz rfl HK.out hb' HI.out wz wy (fun j => by
    rw [bz]
    unfold cutB
    by_cases h : j < 64 * wdsVc3 m
    · rw [decide_eq_true h, Bool.true_and]
    · rw [decide_eq_false h, decide_eq_false (by have := HN.out; omega)]; rfl) own' ry1 (fun hne a e e2 => by
    have h1 := row_old ry hne a e
    have h2 := (hlt a.block e2.symm).1
    omega)
  have HG := Lib.hid (fun wr (hg : w1.grownBy wr (Value.slice V (wdsVc3 m) cV).ownBlock) => hb1.grown hg hb1.size (fun g e => (hlt g e).1))
  clear HF wz bz own own' hlt ry ry1 hb1 hz
  generalize wdsVc3 m = W at *
  go_wp2_with fail
  refine hAd.mono ?_
  rintro e w2 ⟨rfl, hg, q, hq, wq, bq, own⟩
  have HQ : Hid (MadeV W (rowF (wid m) (bt x) (bt y)) w (.returned (.slice V W cV)) w2) := ⟨_, q, rfl, hq, wq, bq, by rw [hq]; exact own, HG.out w2 hg⟩
  clear hg hq wq bq own HG
  go_wp2_with fail
  go_ret
  exact HQ.out

end Go.Proofs.Ytncbhnmhaoblaaa
