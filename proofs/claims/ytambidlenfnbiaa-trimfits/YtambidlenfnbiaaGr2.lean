/-
  Contract of package trim's Grow.
-/
import Derived.Test.YtambidlenfnbiaaGr1
namespace Go.Proofs.Ytambidlenfnbiaa
open Go.RowKit

/-- The head of a round of a loop that grows a list: L k behind k rounds. -/
def GRel (L : Nat → List Pr) (b N : Nat) (w : World) (v i : Value) (wr : World) : Prop :=
  ∃ k : Nat, k ≤ N ∧ i = .int .i64 k ∧ wr.ownsRow w.heap.size 30 2 v (b + k) (pv (L k)) ∧ Below w.heap.size w wr

theorem grel_step {L : Nat → List Pr} {b N k t : Nat} {w w3 : World} {v' : Value} {c : Pr} {x y : Int} (hk : k < N) (hL : L (k + 1) = L k ++ [c]) (hx : x = c.1) (hy : y = c.2) (ht : t = b + k + 1) (hown' : w3.ownsRow w.heap.size 30 2 v' t (pv (L k) ++ [.int .i64 x, .int .i64 y])) (hb : Below w.heap.size w w3) :
    GRel L b N w v' (.int .i64 (k + 1 : Nat)) w3 := by
  subst hx
  subst hy
  subst ht
  refine ⟨k + 1, by omega, rfl, ?_, hb⟩
  rw [hL, pv_append, pv_one]
  exact hown'

def Lf (k : Nat) : List Pr := (List.range k).map (fun i : Nat => ((i : Int), (i : Int)))
def Lm (l : List Pr) (p k : Nat) : List Pr := Lf p ++ (l.take k).map (fun c : Pr => (c.1 + (p : Int), c.2 + (p : Int)))
def Lb (l : List Pr) (p s : Nat) (n m : Int) (k : Nat) : List Pr := Lm l p l.length ++ (List.range k).map (fun i : Nat => (n - (s : Int) + (i : Int), m - (s : Int) + (i : Int)))
theorem Lf_step (k : Nat) : Lf (k + 1) = Lf k ++ [((k : Int), (k : Int))] := by simp [Lf, List.range_succ]
theorem Lm_step (l : List Pr) (p k : Nat) (c : Pr) (h : l[k]? = some c) : Lm l p (k + 1) = Lm l p k ++ [(c.1 + (p : Int), c.2 + (p : Int))] := by
  obtain ⟨hk, e⟩ := List.getElem?_eq_some_iff.1 h
  unfold Lm
  rw [List.take_succ_eq_append_getElem hk, e]
  simp
theorem Lb_step (l : List Pr) (p s : Nat) (n m : Int) (k : Nat) : Lb l p s n m (k + 1) = Lb l p s n m k ++ [(n - (s : Int) + (k : Int), m - (s : Int) + (k : Int))] := by simp [Lb, List.range_succ]
theorem Lm_zero (l : List Pr) (p : Nat) : Lm l p 0 = Lf p := by simp [Lm]
theorem Lb_zero (l : List Pr) (p s : Nat) (n m : Int) : Lb l p s n m 0 = Lm l p l.length := by simp [Lb]
theorem Lb_grown (l : List Pr) (p s : Nat) (n m : Int) : Lb l p s n m s = grown l p s n m := by simp [Lb, Lm, Lf, grown]
theorem grown_length (l : List Pr) (p s : Nat) (n m : Int) : (grown l p s n m).length = p + l.length + s := by simp [grown]; omega

theorem grow_no {l : List Pr} {p s n m : Int} {w wr : World} (h : grows l p s n m = false) (hb : Below w.heap.size w wr) : GrowMade l p s n m w (.returned (.tuple #[.slice none 0 0, .int .i64 1])) wr := by
  refine ⟨.slice none 0 0, by simp [growE, h], ?_, hb⟩
  have e : grownU l p s n m = [] := by simp [grownU, h]
  rw [e]
  exact World.ownsRow_nil _ _ _ _
theorem grow_yes {l : List Pr} {p s : Nat} {n m : Int} {w wr : World} {v : Value} (h : grows l p s n m = true) (hown : wr.ownsRow w.heap.size 30 2 v (p + l.length + s) (pv (grown l p s n m))) (hb : Below w.heap.size w wr) : GrowMade l p s n m w (.returned (.tuple #[v, .int .i64 0])) wr := by
  refine ⟨v, by simp [growE, h], ?_, hb⟩
  have e : grownU l p s n m = grown l p s n m := by simp [grownU, h]
  rw [e, grown_length]
  exact hown
theorem fits_out {p s n : Int} (h : fits p s n = true) : 0 ≤ p ∧ 0 ≤ s ∧ 0 ≤ n ∧ n ≤ 1048576 ∧ p + s ≤ n := by simpa [fits] using h

theorem grows_at {l : List Pr} {p s n m : Int} {j : Nat} {c : Pr} (h : grows l p s n m = true) (hc : l[j]? = some c) : 0 ≤ c.1 ∧ c.1 < n - p - s ∧ 0 ≤ c.2 ∧ c.2 < m - p - s := by
  simp only [grows, Bool.and_eq_true, allb, List.all_eq_true] at h
  simpa [inb] using h.2 c (List.mem_of_getElem? hc)
theorem pair_new1 (w : World) (o : Obj) (x y : Value) (t : TypeId) : ∀ j u, [x, y][j]? = some u → ((w.alloc o).alloc (.cells #[x, y] t)).cell? ((⟨w.heap.size + 1, 0, none⟩ : Addr).add j) = some u := by
  intro j u hu
  have := pair_new (w.alloc o) x y t j u hu
  simpa using this

set_option maxHeartbeats 3200000 in
theorem grow_any (A : Option Addr) (N c : Nat) (l : List Pr) (p s n m : Int) (w : World) (hN : l.length = N) (hb : N ≤ 1048576) (h1 : I64 p) (h2 : I64 s) (h3 : I64 n) (h4 : I64 m) (hr : Row w A (pv l)) :
    Calls Try.prog 10 #[.slice A N c, .int .i64 p, .int .i64 s, .int .i64 n, .int .i64 m] w (GrowMade l p s n m w) := by
  subst hN
  by_cases hf1 : fits p s n = true
  · by_cases hf2 : fits p s m = true
    · have o1 := fits_out hf1
      have o2 := fits_out hf2
      obtain ⟨p, rfl⟩ := Int.eq_ofNat_of_zero_le o1.1
      obtain ⟨s, rfl⟩ := Int.eq_ofNat_of_zero_le o1.2.1
      have F1 := Lib.hid (fits_any p s n w h1 h2 h3)
      have F2 := Lib.hid (fits_any p s m w h1 h2 h4)
      rw [hf1] at F1
      rw [hf2] at F2
      have W := Lib.hid (within_any A _ c l (n - p - s) (m - p - s) w rfl (by omega) hr)
      obtain ⟨b, hv⟩ : ∃ b, allb (n - p - s) (m - p - s) l = b := ⟨_, rfl⟩
      rw [hv] at W
      have hgr : grows l p s n m = b := by simp [grows, hf1, hf2, hv]
      have HG := Lib.hid hgr
      clear hf1 hf2 h1 h2 h3 h4 hv hgr
      obtain ⟨_, _, o3, o4, o5⟩ := o1
      obtain ⟨_, _, o6, o7, o8⟩ := o2
      go_enter Try.func10, Try.ntmps10
      go_wp2_with fail
      refine F1.out.mono ?_
      rintro e w1 ⟨rfl, hw1⟩
      subst hw1
      go_wp2_with fail
      refine F2.out.mono ?_
      rintro e w2 ⟨rfl, hw2⟩
      subst hw2
      clear F1 F2
      go_wp2_with fail
      refine W.out.mono ?_
      rintro e w3 ⟨rfl, hb3⟩
      clear W
      cases b with
      | false =>
        have HF := Lib.hid (grow_no HG.out hb3)
        go_wp2_with fail
        go_ret2
        exact HF.out
      | true =>
        obtain ⟨i0, hi, hz0, hz1, hz2⟩ := info_parts Try.infoPair
        have hr3 := hr.below hb3
        have hs3 := hb3.size
        go_wp2_with (at_make; refine wpList_make_own _ rfl _ _ 25 rfl w2.heap.size 30 i0 (.agg #[.int .i64 0, .int .i64 0]) 2 Try.underlying25 hi hz0 hz1 .i64 .i64 _ (p + l.length + s) rfl rfl (by simp) (by rw [hz2]; omega) (by unfold maxLen; omega) (by omega) ?_)
        intro w4 hown hg4
        have hb4 : Below w2.heap.size w2 w4 := hb3.grown hg4 (by omega) (fun k hk => by cases hk)
        clear hb3 hg4 hr3 hs3
        go_wp2_with fail
        go_loopw [14, 54] (fun v i wr => GRel Lf 0 p w2 v i wr) (fun _ i _ => p - (intOf i).toNat)
        case atStart => exact ⟨0, Nat.zero_le _, rfl, hown, hb4⟩
        case round =>
          obtain ⟨k, hk, rfl, hwn, hbr⟩ := hrel
          clear hown hb4
          have hsz := hbr.size
          by_cases hlt : k < p
          · go_wp2_with (at_builtin; refine wpList_append_own _ rfl (.tmp 57) (.tmp 61) 25 rfl w2.heap.size 30 i0 (.agg #[.int .i64 0, .int .i64 0]) 2 16 Try.underlying25 hi hz0 hz1 hz2 rfl (by decide) _ _ _ rfl (hwn.alloc _) ⟨wr.heap.size, 0, none⟩ 1 1 [_, _] rfl rfl (pair_new _ _ _ _) (one_pair _ _) (by unfold maxLen; omega) (by omega) (by simp; omega) ?_)
            intro v' w5 hown' hg' _
            have R : GRel Lf 0 p w2 v' (.int .i64 (k + 1 : Nat)) w5 := grel_step hlt (Lf_step k) rfl rfl (by omega) hown' ((hbr.alloc hsz _).grown hg' (by simp; omega) (fun x hx => (hwn.lt x hx).1))
            clear hown' hg' hwn hbr
            go_wp2_with fail
            go_roundw
            case rel => exact R
            case measure => simp [intOf]; omega
          · have hkp : k = p := by omega
            subst hkp
            clear hlt hk
            have hown1 : wr.ownsRow w2.heap.size 30 2 u14 (k + 0) (pv (Lm l k 0)) := by rw [Lm_zero]; simpa using hwn
            clear hwn
            go_wp2_with fail
            go_loopw [14, 66] (fun v i wr => GRel (Lm l k) k l.length w2 v i wr) (fun _ i _ => l.length - (intOf i).toNat)
            case atStart => exact ⟨0, Nat.zero_le _, rfl, hown1, hbr⟩
            case round =>
              clear hown1 hbr hsz
              obtain ⟨j, hj, rfl, hwn, hbr⟩ := hrel
              have hsz := hbr.size
              by_cases hlt : j < l.length
              · obtain ⟨g, o, rfl, hc, hd⟩ := (hr.below hbr).pair hlt
                have HX : Hid (l[j]? = some l[j]) := List.getElem?_eq_getElem hlt
                generalize l[j] = z at *
                clear hr
                obtain ⟨z1, z2⟩ := z
                simp only at hc hd
                obtain ⟨i1, i2, i3, i4⟩ := grows_at HG.out HX.out
                simp only at i1 i2 i3 i4
                go_wp2_with (at_builtin; refine wpList_append_own _ rfl (.tmp 70) (.tmp 80) 25 rfl w2.heap.size 30 i0 (.agg #[.int .i64 0, .int .i64 0]) 2 16 Try.underlying25 hi hz0 hz1 hz2 rfl (by decide) _ _ _ rfl ((hwn.alloc _).alloc _) ⟨wr.heap.size + 1, 0, none⟩ 1 1 [_, _] rfl rfl (pair_new1 _ _ _ _ _) (one_pair _ _) (by unfold maxLen; omega) (by omega) (by simp; omega) ?_)
                intro v' w5 hown' hg' _
                have R : GRel (Lm l k) k l.length w2 v' (.int .i64 (j + 1 : Nat)) w5 := grel_step hlt (Lm_step l k j _ HX.out) rfl rfl (by omega) hown' (((hbr.alloc hsz _).alloc (by simp; omega) _).grown hg' (by simp; omega) (fun x hx => (hwn.lt x hx).1))
                clear hown' hg' hwn hbr
                go_wp2_with fail
                go_roundw
                case rel => exact R
                case measure => simp [intOf]; omega
              · have hjl : j = l.length := by omega
                subst hjl
                clear hlt hj hr
                have hown1 : wr.ownsRow w2.heap.size 30 2 u14 (k + l.length + 0) (pv (Lb l k s n m 0)) := by rw [Lb_zero]; simpa using hwn
                clear hwn
                go_wp2_with fail
                go_loopw [14, 84] (fun v i wr => GRel (Lb l k s n m) (k + l.length) s w2 v i wr) (fun _ i _ => s - (intOf i).toNat)
                case atStart => exact ⟨0, Nat.zero_le _, rfl, hown1, hbr⟩
                case round =>
                  clear hown1 hbr hsz
                  obtain ⟨j, hj, rfl, hwn, hbr⟩ := hrel
                  have hsz := hbr.size
                  by_cases hlt : j < s
                  · go_wp2_with (at_builtin; refine wpList_append_own _ rfl (.tmp 87) (.tmp 99) 25 rfl w2.heap.size 30 i0 (.agg #[.int .i64 0, .int .i64 0]) 2 16 Try.underlying25 hi hz0 hz1 hz2 rfl (by decide) _ _ _ rfl (hwn.alloc _) ⟨wr.heap.size, 0, none⟩ 1 1 [_, _] rfl rfl (pair_new _ _ _ _) (one_pair _ _) (by unfold maxLen; omega) (by omega) (by simp; omega) ?_)
                    intro v' w5 hown' hg' _
                    have R : GRel (Lb l k s n m) (k + l.length) s w2 v' (.int .i64 (j + 1 : Nat)) w5 := grel_step hlt (Lb_step l k s n m j) (by simp; omega) (by simp; omega) (by omega) hown' ((hbr.alloc hsz _).grown hg' (by simp; omega) (fun x hx => (hwn.lt x hx).1))
                    clear hown' hg' hwn hbr
                    go_wp2_with fail
                    go_roundw
                    case rel => exact R
                    case measure => simp [intOf]; omega
                  · have hjs : j = s := by omega
                    subst hjs
                    rw [Lb_grown] at hwn
                    have HF := Lib.hid (grow_yes HG.out hwn hbr)
                    clear hwn hbr
                    go_wp2_with fail
                    go_ret2
                    exact HF.out
    · have hf2' : fits p s m = false := by simpa using hf2
      have F1 := Lib.hid (fits_any p s n w h1 h2 h3)
      have F2 := Lib.hid (fits_any p s m w h1 h2 h4)
      rw [hf1] at F1
      rw [hf2'] at F2
      have HF := Lib.hid (grow_no (l := l) (by simp [grows, hf2']) (Below.refl w.heap.size w) : GrowMade l p s n m w _ w)
      clear hf1 hf2 hf2' hr
      unfold I64 at h1 h2 h3 h4
      go_enter Try.func10, Try.ntmps10
      go_wp2_with fail
      refine F1.out.mono ?_
      rintro e w1 ⟨rfl, hw1⟩
      subst hw1
      go_wp2_with fail
      refine F2.out.mono ?_
      rintro e w2 ⟨rfl, hw2⟩
      subst hw2
      go_wp2_with fail
      go_ret2
      exact HF.out
  · have hf1' : fits p s n = false := by simpa using hf1
    have F1 := Lib.hid (fits_any p s n w h1 h2 h3)
    rw [hf1'] at F1
    have HF := Lib.hid (grow_no (l := l) (by simp [grows, hf1']) (Below.refl w.heap.size w) : GrowMade l p s n m w _ w)
    clear hf1 hf1' hr
    unfold I64 at h1 h2 h3 h4
    go_enter Try.func10, Try.ntmps10
    go_wp2_with fail
    refine F1.out.mono ?_
    rintro e w1 ⟨rfl, hw1⟩
    subst hw1
    go_wp2_with fail
    go_ret2
    exact HF.out

end Go.Proofs.Ytambidlenfnbiaa
