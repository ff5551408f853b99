/-
  Contract of the reference's Grow.
-/
import Derived.Test.YtambidlenfnbiaaGr3
import Derived.Test.YtambidlenfnbiaaStep
namespace Go.Proofs.Ytambidlenfnbiaa
open Go.RowKit

set_option maxRecDepth 100000 in
set_option maxHeartbeats 3200000 in
theorem refGrow_yes (A : Option Addr) (N c : Nat) (l : List Pr) (p s n m : Int) (w : World) (hN : l.length = N) (hb : N ≤ 1048576) (hr : Row w A (pv l)) (hf : fits p s n = true ∧ fits p s m = true) :
    Calls Try.prog 18 #[.slice A N c, .int .i64 p, .int .i64 s, .int .i64 n, .int .i64 m] w (GrowMade l p s n m w) := by
  subst hN
  obtain ⟨hf1, hf2⟩ := hf
  have o1 := fits_out hf1
  have o2 := fits_out hf2
  obtain ⟨p, rfl⟩ := Int.eq_ofNat_of_zero_le o1.1
  obtain ⟨s, rfl⟩ := Int.eq_ofNat_of_zero_le o1.2.1
  have HG0 : Hid (∀ b, allb (n - p - s) (m - p - s) l = b → grows l p s n m = b) := fun b hv => by simp [grows, hf1, hf2, hv]
  clear hf1 hf2
  obtain ⟨_, _, o3, o4, o5⟩ := o1
  obtain ⟨_, _, o6, o7, o8⟩ := o2
  have t1 : decide (n < 0) = false := by simp; omega
  have t2 : decide (m < 0) = false := by simp; omega
  have t3 : decide (1048576 < n) = false := by simp; omega
  have t4 : decide (1048576 < m) = false := by simp; omega
  have t5 : decide (n < (p : Int)) = false := by simp; omega
  have t6 : decide (m < (p : Int)) = false := by simp; omega
  have t7 : decide (n - (p : Int) < (s : Int)) = false := by simp; omega
  have t8 : decide (m - (p : Int) < (s : Int)) = false := by simp; omega
  obtain ⟨i0, hi, hz0, hz1, hz2⟩ := info_parts Try.infoPair
  go_enter Try.func18, Try.ntmps18
  go_wp2_with fail
  go_loopw [12] (fun i wr => ∃ k : Nat, k ≤ l.length ∧ i = .int .i64 k ∧ w = wr ∧ Hid (allb (n - p - s) (m - p - s) (l.take k) = true)) (fun i _ => l.length - (intOf i).toNat)
  case atStart => exact ⟨0, Nat.zero_le _, rfl, rfl, by show _ = _; simp [allb]⟩
  case round =>
    obtain ⟨k, hk, rfl, rfl, hkk⟩ := hrel
    by_cases hlt : k < l.length
    · obtain ⟨g, o, rfl, hc, hd⟩ := hr.pair hlt
      have HX : Hid (l[k]? = some l[k]) := List.getElem?_eq_getElem hlt
      generalize l[k] = z at *
      clear hr
      obtain ⟨z1, z2⟩ := z
      simp only at hc hd
      have HR := Lib.hid (fun h => allb_snoc (x := n - p - s) (y := m - p - s) hkk.out HX.out (inb_yes h))
      have HS := Lib.hid (fun h => grow_no (w := w) (HG0.out _ (allb_no HX.out (inb_no h))) (Below.refl w.heap.size w))
      clear hkk HX HG0
      go_wp2_with fail
      case roundEnd =>
        go_roundw
        case rel => exact ⟨k + 1, by omega, by go_num, by first | trivial | rfl, HR.out (by omega)⟩
        case measure => simp [intOf]; omega
      all_goals (go_ret2; exact HS.out (by omega))
    · have hg := HG0.out _ (allb_end hkk.out (by omega))
      have HG := Lib.hid hg
      have hkl : k = l.length := by omega
      subst hkl
      clear hg hkk HG0 hlt hk
      go_wp2_with fail
      go_loopw [13, 14] (fun v i wr => GRel Lf 0 p w v i wr) (fun _ i _ => p - (intOf i).toNat)
      case atStart => exact ⟨0, Nat.zero_le _, rfl, World.ownsRow_nil _ _ _ _, Below.refl _ _⟩
      case round =>
        obtain ⟨k, hk, rfl, hwn, hbr⟩ := hrel
        have hsz := hbr.size
        by_cases hlt : k < p
        · go_wp2_with (at_builtin; refine wpList_append_own _ rfl (.tmp 114) (.tmp 118) 25 rfl w.heap.size 30 i0 (.agg #[.int .i64 0, .int .i64 0]) 2 16 Try.underlying25 hi hz0 hz1 hz2 rfl (by decide) _ _ _ rfl (hwn.alloc _) ⟨wr.heap.size, 0, none⟩ 1 1 [_, _] rfl rfl (pair_new _ _ _ _) (one_pair _ _) (by unfold maxLen; omega) (by omega) (by simp; omega) ?_)
          intro v' w5 hown' hg' _
          have R : GRel Lf 0 p w v' (.int .i64 (k + 1 : Nat)) w5 := grel_step hlt (Lf_step k) rfl rfl (by omega) hown' ((hbr.alloc hsz _).grown hg' (by simp; omega) (fun x hx => (hwn.lt x hx).1))
          clear hown' hg' hwn hbr
          go_wp2_with fail
          go_roundw
          case rel => exact R
          case measure => simp [intOf]; omega
        · have hkp : k = p := by omega
          subst hkp
          clear hlt hk
          have hown1 : wr.ownsRow w.heap.size 30 2 u13 (k + 0) (pv (Lm l k 0)) := by rw [Lm_zero]; simpa using hwn
          clear hwn
          go_wp2_with fail
          go_loopw [13, 15] (fun v i wr => GRel (Lm l k) k l.length w v i wr) (fun _ i _ => l.length - (intOf i).toNat)
          case atStart => exact ⟨0, Nat.zero_le _, rfl, hown1, hbr⟩
          case round =>
            clear hown1 hbr hsz
            obtain ⟨j, hj, rfl, hwn, hbr⟩ := hrel
            have hsz := hbr.size
            by_cases hlt : j < l.length
            · obtain ⟨g, o, rfl, hc, hd⟩ := (hr.below hbr).pair hlt
              have HX : Hid (l[j]? = some l[j]) := List.getElem?_eq_getElem hlt
              generalize l[j] = z at *
              clear hr
              obtain ⟨z1, z2⟩ := z
              simp only at hc hd
              obtain ⟨i1, i2, i3, i4⟩ := grows_at HG.out HX.out
              simp only at i1 i2 i3 i4
              have wz1 := IntWalk.i64_in (z1 + (k : Int)) (by omega)
              have wz2 := IntWalk.i64_in (z2 + (k : Int)) (by omega)
              go_wp2_with fail
              go_region_law ((refine step_own rfl (.tmp 126) (.tmp 142) 25 rfl w.heap.size 30 i0 (.agg #[.int .i64 0, .int .i64 0]) 2 16 Try.underlying25 hi hz0 hz1 hz2 rfl (by decide) _ _ _ rfl ((hwn.alloc _).drew) ⟨wr.heap.size, 0, none⟩ 1 1 [.int .i64 (z1 + k), .int .i64 (z2 + k)] rfl rfl (pair_new wr _ _ _) (one_pair _ _) (by unfold maxLen; omega) (by omega) (Nat.le_trans hsz (by simp)) ?_; intro v' w5 hown' hg'))
              all_goals (
                have R : GRel (Lm l k) k l.length w v' (.int .i64 (j + 1 : Nat)) w5 := grel_step hlt (Lm_step l k j _ HX.out) rfl rfl (by omega) hown' ((below_drewN (hbr.alloc hsz _) 1).grown hg' (Nat.le_trans hsz (by simp)) (fun x hx => (hwn.lt x hx).1))
                clear hown' hg' hwn hbr wz1 wz2
                go_simp
                go_wp2_with fail
                go_roundw
                case rel => exact R
                case measure => simp [intOf]; omega)
            · have hjl : j = l.length := by omega
              subst hjl
              clear hlt hj hr
              have hown1 : wr.ownsRow w.heap.size 30 2 u13 (k + l.length + 0) (pv (Lb l k s n m 0)) := by rw [Lb_zero]; simpa using hwn
              clear hwn
              go_wp2_with fail
              go_loopw [13, 16] (fun v i wr => GRel (Lb l k s n m) (k + l.length) s w v i wr) (fun _ i _ => s - (intOf i).toNat)
              case atStart => exact ⟨0, Nat.zero_le _, rfl, hown1, hbr⟩
              case round =>
                clear hown1 hbr hsz
                obtain ⟨j, hj, rfl, hwn, hbr⟩ := hrel
                have hsz := hbr.size
                by_cases hlt : j < s
                · go_wp2_with (at_builtin; refine wpList_append_own _ rfl (.tmp 149) (.tmp 161) 25 rfl w.heap.size 30 i0 (.agg #[.int .i64 0, .int .i64 0]) 2 16 Try.underlying25 hi hz0 hz1 hz2 rfl (by decide) _ _ _ rfl (hwn.alloc _) ⟨wr.heap.size, 0, none⟩ 1 1 [_, _] rfl rfl (pair_new _ _ _ _) (one_pair _ _) (by unfold maxLen; omega) (by omega) (by simp; omega) ?_)
                  intro v' w5 hown' hg' _
                  have R : GRel (Lb l k s n m) (k + l.length) s w v' (.int .i64 (j + 1 : Nat)) w5 := grel_step hlt (Lb_step l k s n m j) (by simp) (by simp) (by omega) hown' ((hbr.alloc hsz _).grown hg' (by simp; omega) (fun x hx => (hwn.lt x hx).1))
                  clear hown' hg' hwn hbr
                  go_wp2_with fail
                  go_roundw
                  case rel => exact R
                  case measure => simp [intOf]; omega
                · have hjs : j = s := by omega
                  subst hjs
                  rw [Lb_grown] at hwn
                  have HF := Lib.hid (grow_yes HG.out hwn hbr)
                  clear hwn hbr
                  go_wp2_with fail
                  go_ret2
                  exact HF.out

theorem refGrow_any (A : Option Addr) (N c : Nat) (l : List Pr) (p s n m : Int) (w : World) (hN : l.length = N) (hb : N ≤ 1048576) (h1 : I64 p) (h2 : I64 s) (h3 : I64 n) (h4 : I64 m) (hr : Row w A (pv l)) :
    Calls Try.prog 18 #[.slice A N c, .int .i64 p, .int .i64 s, .int .i64 n, .int .i64 m] w (GrowMade l p s n m w) := by
  by_cases hf : fits p s n = true ∧ fits p s m = true
  · exact refGrow_yes A N c l p s n m w hN hb hr hf
  · exact refGrow_no A N c l p s n m w hN hb h1 h2 h3 h4 hf

end Go.Proofs.Ytambidlenfnbiaa
