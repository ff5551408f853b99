/-
  The statements' own rising: numbers as a list that rises.
-/
import Derived.Test.YtnocjkpjihpphaaThQ
import Derived.Test.YtnocjkpjihpphaaTh3
import Derived.Test.YtnocjkpjihpphaaSlc
import Derived.Deep.RegionLaw
namespace Go.Proofs.Ytnocjkpjihpphaa
open Go.RowKit

def RisRel (l : List Int) (w : World) (v i : Value) (wr : World) : Prop :=
  ∃ k : Nat, k ≤ l.length ∧ i = .int .i64 (k : Int) ∧ wr.ownsRow w.heap.size 3 1 v (risL (l.take k)).length (iv (risL (l.take k))) ∧ Below w.heap.size w wr
theorem ris_same {l L : List Int} {x : Int} {w wr : World} {v : Value} {i k : Nat} (hi : i < l.length) (hx : l[i]? = some x) (hL : risL (l.take i) = L) (hk : cntL L x = k) (he : L[k]? = some x) (h : wr.ownsRow w.heap.size 3 1 v L.length (iv L)) (hb : Below w.heap.size w wr) : RisRel l w v (.int .i64 ((i + 1 : Nat) : Int)) wr := by
  refine ⟨i + 1, hi, rfl, ?_, hb⟩
  rw [ris_snoc hx, hL, ins_in hk he]
  exact h
theorem ris_put {l L : List Int} {x : Int} {w wz w3 : World} {v : Value} {i k m : Nat} (hi : i < l.length) (hx : l[i]? = some x) (hL : risL (l.take i) = L) (hk : cntL L x = k) (he : L[k]? ≠ some x) (hm : m = L.length + 1) (hkl : k ≤ L.length)
    (h : w3.ownsRow wz.heap.size 3 1 v m ([] ++ iv (L.take k) ++ [.int .i64 x] ++ iv (L.drop k))) (hb : Below w.heap.size w wz) (hb3 : Below wz.heap.size wz w3) : RisRel l w v (.int .i64 ((i + 1 : Nat) : Int)) w3 := by
  refine ⟨i + 1, hi, rfl, ?_, below_go hb hb3⟩
  rw [ris_snoc hx, hL, ins_at hk he]
  have e : (L.take k ++ x :: L.drop k).length = m := by rw [List.length_append, List.length_take, List.length_cons, List.length_drop]; omega
  rw [e]
  have e2 : iv (L.take k ++ x :: L.drop k) = [] ++ iv (L.take k) ++ [.int .i64 x] ++ iv (L.drop k) := by simp [iv]
  rw [e2]
  exact own_lower h hb.size

set_option maxRecDepth 100000 in
set_option maxHeartbeats 4000000 in
theorem rising_any (A : Option Addr) (n c : Nat) (l : List Int) (w : World) (hn : l.length = n) (hb : n ≤ 1048576) (hr : Row w A (iv l)) :
    Calls Try.prog 13 #[.slice A n c] w (MadeI (risL l) w) := by
  obtain ⟨i0, hi, hz0, hz1, hz2⟩ := info_parts Try.infoInt
  subst hn
  go_enter Try.func13, Try.ntmps13
  go_wp2_with fail
  go_loopw [3, 4] (fun v i wr => RisRel l w v i wr) (fun _ i _ => l.length - (intOf i).toNat)
  case atStart => exact ⟨0, Nat.zero_le _, rfl, World.ownsRow_nil _ _ _ _, Below.refl _ _⟩
  case round =>
    obtain ⟨i, hk, rfl, hwn, hbr⟩ := hrel
    by_cases hlt : i < l.length
    · have hLl := ris_length (l.take i)
      rw [List.length_take] at hLl
      obtain ⟨g, o, rfl, hc⟩ := (hr.below hbr).int hlt
      have HX : Hid (l[i]? = some l[i]) := List.getElem?_eq_getElem hlt
      generalize l[i] = x at *
      obtain ⟨L, hL⟩ : ∃ L, risL (l.take i) = L := ⟨_, rfl⟩
      rw [hL] at hwn hLl
      have HL := Lib.hid hL
      clear hL hr
      obtain ⟨D, cD, rfl, hD1, hD2, hD3, hD4⟩ := own_slice hwn
      have C := Lib.hid (rfind_any D L.length cD L x wr rfl (by omega) hD3)
      have hkl := cnt_le L x
      obtain ⟨k, hK⟩ : ∃ k, cntL L x = k := ⟨_, rfl⟩
      rw [hK] at C hkl
      have HK := Lib.hid hK
      clear hK
      go_wp2_with fail
      refine C.out.mono ?_
      rintro e w' ⟨rfl, rfl⟩
      clear C
      by_cases hin : L[k]? = some x
      · have hkL : k < L.length := (List.getElem?_eq_some_iff.1 hin).1
        obtain ⟨gd, od, rfl, hcd⟩ := hD3.int hkL
        have hx : L[k] = x := (List.getElem?_eq_some_iff.1 hin).2
        rw [hx] at hcd
        have z1 : ((k : Int) == (L.length : Int)) = false := by simp; omega
        have z2 : (x != x) = false := by simp
        have R := Lib.hid (fun q => ris_same (w := w) hlt HX.out HL.out HK.out hin (show (wr.drewN q).ownsRow w.heap.size 3 1 _ _ _ from hwn) (below_drewN hbr q))
        clear hx hin hwn hbr hD3
        go_wp2_with fail
        go_quiet (fail)
        go_wp2_with fail
        go_roundw
        case rel => first | exact R.out _ | ((repeat apply Exists.intro); exact ⟨R.out _, rfl⟩)
        case measure => simp [intOf]; omega
      · by_cases hkL : k < L.length
        · obtain ⟨gd, od, e, hcd⟩ := hD3.int hkL
          have HY : Hid (L[k]? = some L[k]) := List.getElem?_eq_getElem hkL
          have hne : L[k] ≠ x := fun e => hin (by rw [HY.out, e])
          generalize L[k] = y at *
          have z1 : ((k : Int) == (L.length : Int)) = false := by simp; omega
          have z2 : (y != x) = true := by simpa using hne
          have HN := Lib.hid hin
          subst e
          clear hin hne
          go_wp2_with fail
          go_quiet (fail)
          have hownZ : (wr.drewN nq).ownsRow w.heap.size 3 1 (.slice (some (⟨gd, od, none⟩ : Addr)) L.length cD) L.length (iv L) := hwn
          have hbZ := below_drewN hbr nq
          have hctZ : (wr.drewN nq).cell? ⟨g, o + i, none⟩ = some (.int .i64 x) := hc
          clear hwn hbr hc hcd hD3
          generalize wr.drewN nq = wz at *
          have hszZ := hbZ.size
          have rZ := Row.of_own hownZ
          obtain ⟨S1, rT⟩ := slice_to (some (⟨gd, od, none⟩ : Addr)) L.length cD k L wz rZ (by omega)
          obtain ⟨D2, c2, S2, hc2, rD, hnD2⟩ := slice_fromN (some (⟨gd, od, none⟩ : Addr)) L.length cD k L wz rZ rfl hD1 hkl hD4
          have hxt : (iv (L.take k)).length = k := by rw [iv_length, List.length_take]; omega
          have hxd : (iv (L.drop k)).length = L.length - k := by rw [iv_length, List.length_drop]
          have h1t := iv_one (L.take k)
          have h1d := iv_one (L.drop k)
          have hnD := hD4
          have hctA : ∀ o', (wz.alloc o').cell? ⟨g, o + i, none⟩ = some (.int .i64 x) := fun o' => ((Below.refl _ wz).alloc (Nat.le_refl _) o').cell (p := ⟨g, o + i, none⟩) (World.block_lt_of_cell? _ _ hctZ) |>.trans hctZ
          clear rZ z1
          go_wp2_with fail
          go_region_law (first
            | (refine step_append_row rfl (.tmp 33) (.tmp 36) 22 rfl wz.heap.size 3 i0 (.int .i64 0) 8 Try.underlying22 hi hz0 hz1 hz2 rfl _ 0 [] rfl (by first | exact own_e0 wz _ (Nat.le_refl _) | exact (own_e0 wz _ (Nat.le_refl _)).alloc _ | exact own_e1 wz _ _ (Nat.le_refl _)) _ _ _ (iv (L.take k)) rfl hxt (by first | exact rT.alloc _ | exact (rT.alloc _).alloc _) hnD h1t (by unfold maxLen; omega) (by omega) (by first | omega | (simp; done) | (simp; omega)) ?_
               intro v1 w1 o1 g1
               have b1 : Below wz.heap.size wz w1 := by
                 first
                   | exact Below.grown (below_drew ((Below.refl _ wz).alloc (Nat.le_refl _) _)) g1 (by simp) (fun x hx => by cases hx; simp)
                   | exact Below.grown (below_drew (((Below.refl _ wz).alloc (Nat.le_refl _) _).alloc (by simp) _)) g1 (by first | omega | (simp; done) | (simp; omega)) (fun x hx => by cases hx; simp)
               have c1 : w1.cell? ⟨g, o + i, none⟩ = some (.int .i64 x) := (b1.cell (p := ⟨g, o + i, none⟩) (World.block_lt_of_cell? _ _ hctZ)).trans hctZ
               have s1 := b1.size
               first
                 | have q1 := q_before g1 rfl
                 | have q1 := q_after g1 rfl
                 | skip
               clear g1)
            | (refine step_append_row rfl (.tmp 37) (.tmp 42) 22 rfl wz.heap.size 3 i0 (.int .i64 0) 8 Try.underlying22 hi hz0 hz1 hz2 rfl v1 _ _ rfl (by first | exact o1 | exact o1.alloc _) _ _ _ [.int .i64 x] rfl rfl (by first | exact row_one _ _ _ | exact q1) (fun h => by cases h) (one_int _ _) (by unfold maxLen; omega) (by omega) (by first | omega | (simp; done) | (simp; omega)) ?_
               intro v2 w2 o2 g2
               have b2 : Below wz.heap.size wz w2 := by
                 first
                   | exact Below.grown b1 g2 s1 (fun x hx => (o1.lt x hx).1)
                   | exact Below.grown (b1.alloc s1 _) g2 (by first | omega | (simp; done) | (simp; omega)) (fun x hx => (o1.lt x hx).1)
               clear g2)
            | (refine step_append_row rfl (.tmp 43) (.tmp 46) 22 rfl wz.heap.size 3 i0 (.int .i64 0) 8 Try.underlying22 hi hz0 hz1 hz2 rfl v2 _ _ rfl o2 _ _ _ (iv (L.drop k)) rfl hxd (rD.below b2) hnD2 h1d (by unfold maxLen; omega) (by omega) (by have := b2.size; omega) ?_
               intro v3 w3 o3 g3
               have b3 : Below wz.heap.size wz w3 := Below.grown b2 g3 b2.size (fun x hx => (o2.lt x hx).1)
               clear g3))
          all_goals
            have R := ris_put hlt HX.out HL.out HK.out HN.out (by omega) hkl o3 hbZ b3
            clear o3 b3 o2 b2 o1 b1 c1 hctA hctZ hownZ
            go_wp2_with fail
            go_roundw
            case rel => first | exact R | ((repeat apply Exists.intro); exact ⟨R, rfl⟩)
            case measure => simp [intOf]; omega
        · have hke : k = L.length := by omega
          have z1 : ((k : Int) == (L.length : Int)) = true := by simp; omega
          have HN := Lib.hid hin
          have HKE := Lib.hid hke
          clear hin hke
          go_wp2_with fail
          go_quiet (fail)
          have hownZ : (wr.drewN nq).ownsRow w.heap.size 3 1 (.slice D L.length cD) L.length (iv L) := hwn
          have hbZ := below_drewN hbr nq
          have hctZ : (wr.drewN nq).cell? ⟨g, o + i, none⟩ = some (.int .i64 x) := hc
          clear hwn hbr hc hD3
          generalize wr.drewN nq = wz at *
          have hszZ := hbZ.size
          have rZ := Row.of_own hownZ
          obtain ⟨S1, rT⟩ := slice_to D L.length cD k L wz rZ (by omega)
          obtain ⟨D2, c2, S2, hc2, rD, hnD2⟩ := slice_fromN D L.length cD k L wz rZ rfl hD1 hkl hD4
          have hxt : (iv (L.take k)).length = k := by rw [iv_length, List.length_take]; omega
          have hxd : (iv (L.drop k)).length = L.length - k := by rw [iv_length, List.length_drop]
          have h1t := iv_one (L.take k)
          have h1d := iv_one (L.drop k)
          have hnD := hD4
          have hctA : ∀ o', (wz.alloc o').cell? ⟨g, o + i, none⟩ = some (.int .i64 x) := fun o' => ((Below.refl _ wz).alloc (Nat.le_refl _) o').cell (p := ⟨g, o + i, none⟩) (World.block_lt_of_cell? _ _ hctZ) |>.trans hctZ
          clear rZ z1
          go_wp2_with fail
          go_region_law (first
            | (refine step_append_row rfl (.tmp 33) (.tmp 36) 22 rfl wz.heap.size 3 i0 (.int .i64 0) 8 Try.underlying22 hi hz0 hz1 hz2 rfl _ 0 [] rfl (by first | exact own_e0 wz _ (Nat.le_refl _) | exact (own_e0 wz _ (Nat.le_refl _)).alloc _ | exact own_e1 wz _ _ (Nat.le_refl _)) _ _ _ (iv (L.take k)) rfl hxt (by first | exact rT.alloc _ | exact (rT.alloc _).alloc _) hnD h1t (by unfold maxLen; omega) (by omega) (by first | omega | (simp; done) | (simp; omega)) ?_
               intro v1 w1 o1 g1
               have b1 : Below wz.heap.size wz w1 := by
                 first
                   | exact Below.grown (below_drew ((Below.refl _ wz).alloc (Nat.le_refl _) _)) g1 (by simp) (fun x hx => by cases hx; simp)
                   | exact Below.grown (below_drew (((Below.refl _ wz).alloc (Nat.le_refl _) _).alloc (by simp) _)) g1 (by first | omega | (simp; done) | (simp; omega)) (fun x hx => by cases hx; simp)
               have c1 : w1.cell? ⟨g, o + i, none⟩ = some (.int .i64 x) := (b1.cell (p := ⟨g, o + i, none⟩) (World.block_lt_of_cell? _ _ hctZ)).trans hctZ
               have s1 := b1.size
               first
                 | have q1 := q_before g1 rfl
                 | have q1 := q_after g1 rfl
                 | skip
               clear g1)
            | (refine step_append_row rfl (.tmp 37) (.tmp 42) 22 rfl wz.heap.size 3 i0 (.int .i64 0) 8 Try.underlying22 hi hz0 hz1 hz2 rfl v1 _ _ rfl (by first | exact o1 | exact o1.alloc _) _ _ _ [.int .i64 x] rfl rfl (by first | exact row_one _ _ _ | exact q1) (fun h => by cases h) (one_int _ _) (by unfold maxLen; omega) (by omega) (by first | omega | (simp; done) | (simp; omega)) ?_
               intro v2 w2 o2 g2
               have b2 : Below wz.heap.size wz w2 := by
                 first
                   | exact Below.grown b1 g2 s1 (fun x hx => (o1.lt x hx).1)
                   | exact Below.grown (b1.alloc s1 _) g2 (by first | omega | (simp; done) | (simp; omega)) (fun x hx => (o1.lt x hx).1)
               clear g2)
            | (refine step_append_row rfl (.tmp 43) (.tmp 46) 22 rfl wz.heap.size 3 i0 (.int .i64 0) 8 Try.underlying22 hi hz0 hz1 hz2 rfl v2 _ _ rfl o2 _ _ _ (iv (L.drop k)) rfl hxd (rD.below b2) hnD2 h1d (by unfold maxLen; omega) (by omega) (by have := b2.size; omega) ?_
               intro v3 w3 o3 g3
               have b3 : Below wz.heap.size wz w3 := Below.grown b2 g3 b2.size (fun x hx => (o2.lt x hx).1)
               clear g3))
          all_goals
            have R := ris_put hlt HX.out HL.out HK.out HN.out (by omega) hkl o3 hbZ b3
            clear o3 b3 o2 b2 o1 b1 c1 hctA hctZ hownZ
            go_wp2_with fail
            go_roundw
            case rel => first | exact R | ((repeat apply Exists.intro); exact ⟨R, rfl⟩)
            case measure => simp [intOf]; omega
    · obtain rfl : i = l.length := by omega
      rw [List.take_length] at hwn
      have HF : Hid (MadeI (risL l) w (.returned u3) wr) := ⟨u3, rfl, hwn, hbr⟩
      clear hwn hbr
      go_wp2_with fail
      go_ret
      exact HF.out

end Go.Proofs.Ytnocjkpjihpphaa
