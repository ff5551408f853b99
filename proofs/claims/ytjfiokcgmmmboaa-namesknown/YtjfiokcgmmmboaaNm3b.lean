/-
  The reference's Sort: the walk.
-/
import Derived.Test.YtjfiokcgmmmboaaNm3
namespace Go.Proofs.Ytjfiokcgmmmboaa
open Go.RowKit
open Go.Lib (compareBytes)

set_option maxRecDepth 100000 in
set_option maxHeartbeats 4000000 in
theorem refSort_any (A : Option Addr) (n c : Nat) (vs : List Value) (ls : List Bs) (w : World) (hn : ls.length = n) (hb : n ≤ 2147483648) (hl : ∀ t ∈ ls, t.length ≤ 2147483648) (hr : Row w A vs) (hbs : BSs w vs ls) :
    Calls Try.prog 17 #[.slice A n c] w (MadeT (sortU ls) w) := by
  obtain ⟨i0, hi, hz0, hz1, hz2⟩ := info_parts Try.infoBs
  subst hn
  have HL := Lib.hid hl
  clear hl
  go_enter Try.func17, Try.ntmps17
  go_wp2_with fail
  go_loopw [3, 4] (fun v i wr => RSort ls w v i wr) (fun _ i _ => ls.length - (intOf i).toNat)
  case atStart => exact ⟨0, [], Nat.zero_le _, rfl, World.ownsRow_nil _ _ _ _, BSs.nil _, Below.refl _ _⟩
  case round =>
    obtain ⟨i, xs, hk, rfl, hown, hbx, hbr⟩ := hrel
    by_cases hlt : i < ls.length
    · have hln := sortU_length (ls.take i)
      rw [List.length_take] at hln
      have HS : Hid (sortU (ls.take (i + 1)) = put (sortU (ls.take i)) ls[i]) := by
        show _ = _
        rw [List.take_succ_eq_append_getElem hlt, sortU_snoc]
      have HLd : Hid (∀ t ∈ sortU (ls.take i), t.length ≤ 2147483648) := fun t ht => HL.out t (List.mem_of_mem_take (mem_sortU.1 ht))
      have HLt : ls[i].length ≤ 2147483648 := HL.out _ (List.getElem_mem hlt)
      obtain ⟨g, o, At, ct, rfl, hct0, t1, t2, t30, t4⟩ := hbs.cell hr hlt
      have HBt : Hid (BS w (.slice At ls[i].length ct) ls[i]) := ⟨At, ct, rfl, t1, t2, t30, t4⟩
      generalize hds : sortU (ls.take i) = ds at *
      clear hds
      obtain ⟨D, cD, rfl, hD1, hD2, hD3, hD4⟩ := own_slice hown
      go_wp2_with fail
      go_loopw [5] (fun k wx => RSearch ds ls[i] w (.slice D ds.length cD) xs k wx) (fun k _ => ds.length - (intOf k).toNat)
      case atStart => exact ⟨0, Nat.zero_le _, rfl, fun j h hj => by omega, hown, hbr⟩
      case round =>
        clear hown hbr hD3
        obtain ⟨k, hk2, rfl, hall, hown, hbr⟩ := hrel
        have HA := Lib.hid hall
        clear hall
        have hD3 := Row.of_own hown
        have hct : wr.cell? ⟨g, o + i, none⟩ = some (.slice At ls[i].length ct) := (hbr.cell (p := ⟨g, o + i, none⟩) (World.block_lt_of_cell? _ _ hct0)).trans hct0
        have t3 := t30.below hbr
        by_cases hk3 : k < ds.length
        · obtain ⟨gd, od, Ad, cd, rfl, hcd, d1, d2, d3, d4⟩ := BSs.cell hD3 (hbx.below hbr) hk3
          have dl := HLd.out _ (List.getElem_mem hk3)
          by_cases hlb : lb ds[k] ls[i] = true
          · have R : ∀ q, RSearch ds ls[i] w (.slice (some ⟨gd, od, none⟩) ds.length cD) xs (.int .i64 (k + 1 : Nat)) (wr.drewN q) := fun q => by
              refine ⟨k + 1, by omega, rfl, fun j h hj => ?_, hown, below_drewN hbr q⟩
              by_cases e : j = k
              · subst e; exact hlb
              · exact HA.out j h (by omega)
            have RR := Lib.hid R
            have HLB := Lib.hid hlb
            clear R hlb hown
            go_wp2_with fail
            go_quiet ((go_at_call 22; exact refBelow_quiet Ad At _ _ cd ct _ ds[k] ls[i] _ true rfl rfl dl HLt d3 t3 HLB.out))
            go_wp2_with fail
            go_roundw
            case rel => exact RR.out _
            case measure => simp [intOf]; omega
          · have hlf : lb ds[k] ls[i] = false := by simpa using hlb
            have HLB := Lib.hid hlf
            clear hlf hlb
            go_wp2_with fail
            go_quiet ((go_at_call 22; exact refBelow_quiet Ad At _ _ cd ct _ ds[k] ls[i] _ false rfl rfl dl HLt d3 t3 HLB.out))
            have hownY : (wr.drewN nq).ownsRow w.heap.size 24 1 (.slice (some ⟨gd, od, none⟩) ds.length cD) ds.length xs := hown
            have hbY := below_drewN hbr nq
            have hctY : (wr.drewN nq).cell? ⟨g, o + i, none⟩ = _ := hct
            have hcdY : (wr.drewN nq).cell? ⟨gd, od + k, none⟩ = _ := hcd
            have t3Y := t3.drewN nq
            have d3Y := d3.drewN nq
            clear hown hbr hct hcd t3 d3 hD3
            generalize wr.drewN nq = wy at *
            by_cases heq : ds[k] = ls[i]
            · have HP : Hid (put ds ls[i] = ds) := by
                show _ = _
                rw [put_at k hk2 (fun j h hj => HA.out j h hj) (fun _ => HLB.out), if_pos (by rw [List.getElem?_eq_getElem hk3, heq])]
              have HQ : Hid (decide (ds[k] = ls[i]) = true) := decide_eq_true heq
              clear heq
              have R : ∀ q, RSort ls w (.slice (some ⟨gd, od, none⟩) ds.length cD) (.int .i64 (i + 1 : Nat)) (wy.drewN q) := fun q => by
                refine ⟨i + 1, xs, by omega, rfl, ?_, ?_, below_drewN hbY q⟩
                · rw [HS.out, HP.out]; exact hownY
                · rw [HS.out, HP.out]; exact hbx
              have RR := Lib.hid R
              clear R hownY
              go_wp2_with fail
              go_quiet ((go_at_call 21; exact refSame_quiet Ad At _ _ cd ct _ ds[k] ls[i] _ true rfl rfl d3Y t3Y HQ.out))
              go_wp2_with fail
              go_roundw
              case rel => first | exact RR.out _ | ((repeat apply Exists.intro); exact ⟨RR.out _, rfl⟩)
              case measure => simp [intOf]; omega
            · have HQ : Hid (decide (ds[k] = ls[i]) = false) := decide_eq_false heq
              have HP : Hid (put ds ls[i] = ds.take k ++ ls[i] :: ds.drop k) := by
                show _ = _
                rw [put_at k hk2 (fun j h hj => HA.out j h hj) (fun _ => HLB.out), if_neg (by rw [List.getElem?_eq_getElem hk3]; intro e; exact heq (Option.some.inj e))]
              clear heq
              go_wp2_with fail
              go_quiet ((go_at_call 21; exact refSame_quiet Ad At _ _ cd ct _ ds[k] ls[i] _ false rfl rfl d3Y t3Y HQ.out))
              have hownZ : (wy.drewN nq).ownsRow w.heap.size 24 1 (.slice (some ⟨gd, od, none⟩) ds.length cD) ds.length xs := hownY
              have hbZ := below_drewN hbY nq
              have hctZ : (wy.drewN nq).cell? ⟨g, o + i, none⟩ = _ := hctY
              clear hownY hbY hctY hcdY t3Y d3Y
              generalize wy.drewN nq = wz at *
              have hkc : k ≤ cD := by omega
              have hcD : ¬ cD = k := by omega
              have hszZ := hbZ.size
              have hxl : xs.length = ds.length := by simpa using hownZ.1
              have hxt : (xs.take k).length = k := by rw [List.length_take]; omega
              have hxd : (xs.drop k).length = ds.length - k := by rw [List.length_drop]; omega
              have rZ : Row wz (some ⟨gd, od, none⟩) xs := Row.of_own hownZ
              have rT := rZ.take k
              have rD := rZ.drop k
              simp only [Option.map_some, Addr.add_lit] at rD
              have h1x := hbx.one
              have h1t : ∀ u ∈ xs.take k, u.oneCell' = true := fun u hu => h1x u (List.mem_of_mem_take hu)
              have h1d : ∀ u ∈ xs.drop k, u.oneCell' = true := fun u hu => h1x u (List.mem_of_mem_drop hu)
              clear h1x rZ
              have hnD : (some (⟨gd, od, none⟩ : Addr)) = none → cD = 0 := fun h => by cases h
              have hnD' : (some (⟨gd, od + k, none⟩ : Addr)) = none → cD - k = 0 := fun h => by cases h
              have hctA : ∀ o', (wz.alloc o').cell? ⟨g, o + i, none⟩ = some (.slice At ls[i].length ct) := fun o' => ((Below.refl _ wz).alloc (Nat.le_refl _) o').cell (p := ⟨g, o + i, none⟩) (World.block_lt_of_cell? _ _ hctZ) |>.trans hctZ
              go_wp2_with fail
              go_region_law (first
                | (refine step_append_row rfl (.tmp 44) (.tmp 47) 22 rfl wz.heap.size 24 i0 (.slice none 0 0) 24 Try.underlying22 hi hz0 hz1 hz2 rfl _ 0 [] rfl (by first | exact own_e0 wz _ (Nat.le_refl _) | exact (own_e0 wz _ (Nat.le_refl _)).alloc _ | exact own_e1 wz _ _ (Nat.le_refl _)) _ _ _ (xs.take k) rfl hxt (by first | exact rT.alloc _ | exact (rT.alloc _).alloc _) hnD h1t (by unfold maxLen; omega) (by omega) (by first | omega | (simp; done) | (simp; omega)) ?_
                   intro v1 w1 o1 g1
                   have b1 : Below wz.heap.size wz w1 := by
                     first
                       | exact Below.grown (below_drew ((Below.refl _ wz).alloc (Nat.le_refl _) _)) g1 (by simp) (fun x hx => by cases hx; simp)
                       | exact Below.grown (below_drew (((Below.refl _ wz).alloc (Nat.le_refl _) _).alloc (by simp) _)) g1 (by first | omega | (simp; done) | (simp; omega)) (fun x hx => by cases hx; simp)
                   have c1 : w1.cell? ⟨g, o + i, none⟩ = some (.slice At ls[i].length ct) := (b1.cell (p := ⟨g, o + i, none⟩) (World.block_lt_of_cell? _ _ hctZ)).trans hctZ
                   have s1 := b1.size
                   first
                     | have q1 := q_before g1 rfl
                     | have q1 := q_after g1 rfl
                     | skip
                   clear g1)
                | (refine step_append_row rfl (.tmp 48) (.tmp 53) 22 rfl wz.heap.size 24 i0 (.slice none 0 0) 24 Try.underlying22 hi hz0 hz1 hz2 rfl v1 _ _ rfl (by first | exact o1 | exact o1.alloc _) _ _ _ [.slice At ls[i].length ct] rfl rfl (by first | exact row_one _ _ _ | exact q1) (fun h => by cases h) (one_slice _ _ _) (by unfold maxLen; omega) (by omega) (by first | omega | (simp; done) | (simp; omega)) ?_
                   intro v2 w2 o2 g2
                   have b2 : Below wz.heap.size wz w2 := by
                     first
                       | exact Below.grown b1 g2 s1 (fun x hx => (o1.lt x hx).1)
                       | exact Below.grown (b1.alloc s1 _) g2 (by first | omega | (simp; done) | (simp; omega)) (fun x hx => (o1.lt x hx).1)
                   clear g2)
                | (refine step_append_row rfl (.tmp 54) (.tmp 57) 22 rfl wz.heap.size 24 i0 (.slice none 0 0) 24 Try.underlying22 hi hz0 hz1 hz2 rfl v2 _ _ rfl o2 _ _ _ (xs.drop k) rfl hxd (rD.below b2) hnD' h1d (by unfold maxLen; omega) (by omega) (by have := b2.size; omega) ?_
                   intro v3 w3 o3 g3
                   have b3 : Below wz.heap.size wz w3 := Below.grown b2 g3 b2.size (fun x hx => (o2.lt x hx).1)
                   clear g3))
              all_goals
                have R := rput_round hlt HS.out HP.out (by omega) hk2 hbx HBt.out hbZ o3 b3
                clear o3 b3 o2 b2 o1 b1 c1 hctA hctZ hownZ
                go_wp2_with fail
                go_roundw
                case rel => first | exact R | ((repeat apply Exists.intro); exact ⟨R, rfl⟩)
                case measure => simp [intOf]; omega
        · have hkl : k = ds.length := by omega
          have HP : Hid (put ds ls[i] = ds.take k ++ ls[i] :: ds.drop k) := by
            show _ = _
            rw [put_at k hk2 (fun j h hj => HA.out j h hj) (fun h => absurd h hk3), if_neg (by rw [List.getElem?_eq_none (by omega)]; simp)]
          have HKL := Lib.hid hkl
          clear hkl
          have hdk : decide ((k : Int) < (ds.length : Int)) = false := by rw [decide_eq_false_iff_not]; omega
          have hdn : decide (k < ds.length) = false := by rw [decide_eq_false_iff_not]; omega
          go_wp2_with fail
          go_quiet (fail)
          have hownY : (wr.drewN nq).ownsRow w.heap.size 24 1 (.slice D ds.length cD) ds.length xs := hown
          have hbY := below_drewN hbr nq
          have hctY : (wr.drewN nq).cell? ⟨g, o + i, none⟩ = _ := hct
          clear hown hbr hct t3 hD3
          generalize wr.drewN nq = wy at *
          go_wp2_with fail
          go_quiet (fail)
          have hownZ : (wy.drewN nq).ownsRow w.heap.size 24 1 (.slice D ds.length cD) ds.length xs := hownY
          have hbZ := below_drewN hbY nq
          have hctZ : (wy.drewN nq).cell? ⟨g, o + i, none⟩ = _ := hctY
          clear hownY hbY hctY
          generalize wy.drewN nq = wz at *
          have hkc : k ≤ cD := by omega
          have hszZ := hbZ.size
          have hxl : xs.length = ds.length := by simpa using hownZ.1
          have hxt : (xs.take k).length = k := by rw [List.length_take]; omega
          have hxd : (xs.drop k).length = ds.length - k := by rw [List.length_drop]; omega
          have rT := (Row.of_own hownZ).take k
          have hxn : xs.drop k = [] := List.drop_eq_nil_of_le (by omega)
          have rDn : ∀ (W : World) (X : Option Addr), Row W X (xs.drop k) := fun W X => by rw [hxn]; exact Row.nil _ _
          clear hxn
          have h1x := hbx.one
          have h1t : ∀ u ∈ xs.take k, u.oneCell' = true := fun u hu => h1x u (List.mem_of_mem_take hu)
          have h1d : ∀ u ∈ xs.drop k, u.oneCell' = true := fun u hu => h1x u (List.mem_of_mem_drop hu)
          clear h1x
          have hnD : D = none → cD = 0 := hD4
          have hctA : ∀ o', (wz.alloc o').cell? ⟨g, o + i, none⟩ = some (.slice At ls[i].length ct) := fun o' => ((Below.refl _ wz).alloc (Nat.le_refl _) o').cell (p := ⟨g, o + i, none⟩) (World.block_lt_of_cell? _ _ hctZ) |>.trans hctZ
          by_cases hcD : cD = k
          · have hnD : D = none → k = 0 := fun h => by have := hD4 h; omega
            go_wp2_with fail
            go_region_law (first
              | (refine step_append_row rfl (.tmp 44) (.tmp 47) 22 rfl wz.heap.size 24 i0 (.slice none 0 0) 24 Try.underlying22 hi hz0 hz1 hz2 rfl _ 0 [] rfl (by first | exact own_e0 wz _ (Nat.le_refl _) | exact (own_e0 wz _ (Nat.le_refl _)).alloc _ | exact own_e1 wz _ _ (Nat.le_refl _)) _ _ _ (xs.take k) rfl hxt (by first | exact rT.alloc _ | exact (rT.alloc _).alloc _) hnD h1t (by unfold maxLen; omega) (by omega) (by first | omega | (simp; done) | (simp; omega)) ?_
                 intro v1 w1 o1 g1
                 have b1 : Below wz.heap.size wz w1 := by
                   first
                     | exact Below.grown (below_drew ((Below.refl _ wz).alloc (Nat.le_refl _) _)) g1 (by simp) (fun x hx => by cases hx; simp)
                     | exact Below.grown (below_drew (((Below.refl _ wz).alloc (Nat.le_refl _) _).alloc (by simp) _)) g1 (by first | omega | (simp; done) | (simp; omega)) (fun x hx => by cases hx; simp)
                 have c1 : w1.cell? ⟨g, o + i, none⟩ = some (.slice At ls[i].length ct) := (b1.cell (p := ⟨g, o + i, none⟩) (World.block_lt_of_cell? _ _ hctZ)).trans hctZ
                 have s1 := b1.size
                 first
                   | have q1 := q_before g1 rfl
                   | have q1 := q_after g1 rfl
                   | skip
                 clear g1)
              | (refine step_append_row rfl (.tmp 48) (.tmp 53) 22 rfl wz.heap.size 24 i0 (.slice none 0 0) 24 Try.underlying22 hi hz0 hz1 hz2 rfl v1 _ _ rfl (by first | exact o1 | exact o1.alloc _) _ _ _ [.slice At ls[i].length ct] rfl rfl (by first | exact row_one _ _ _ | exact q1) (fun h => by cases h) (one_slice _ _ _) (by unfold maxLen; omega) (by omega) (by first | omega | (simp; done) | (simp; omega)) ?_
                 intro v2 w2 o2 g2
                 have b2 : Below wz.heap.size wz w2 := by
                   first
                     | exact Below.grown b1 g2 s1 (fun x hx => (o1.lt x hx).1)
                     | exact Below.grown (b1.alloc s1 _) g2 (by first | omega | (simp; done) | (simp; omega)) (fun x hx => (o1.lt x hx).1)
                 clear g2)
              | (refine step_append_row rfl (.tmp 54) (.tmp 57) 22 rfl wz.heap.size 24 i0 (.slice none 0 0) 24 Try.underlying22 hi hz0 hz1 hz2 rfl v2 _ _ rfl o2 _ _ _ (xs.drop k) rfl hxd (rDn _ _) (fun _ => rfl) h1d (by unfold maxLen; omega) (by omega) (by have := b2.size; omega) ?_
                 intro v3 w3 o3 g3
                 have b3 : Below wz.heap.size wz w3 := Below.grown b2 g3 b2.size (fun x hx => (o2.lt x hx).1)
                 clear g3))
            all_goals
              have R := rput_round hlt HS.out HP.out (by omega) hk2 hbx HBt.out hbZ o3 b3
              clear o3 b3 o2 b2 o1 b1 c1 hctA hctZ hownZ
              go_wp2_with fail
              go_roundw
              case rel => first | exact R | ((repeat apply Exists.intro); exact ⟨R, rfl⟩)
              case measure => simp [intOf]; omega
          · have hnD' : Option.map (fun x => x.add k) D = none → cD - k = 0 := fun h => by
              cases D with
              | none => have := hD4 rfl; omega
              | some a => cases h
            go_wp2_with fail
            go_region_law (first
              | (refine step_append_row rfl (.tmp 44) (.tmp 47) 22 rfl wz.heap.size 24 i0 (.slice none 0 0) 24 Try.underlying22 hi hz0 hz1 hz2 rfl _ 0 [] rfl (by first | exact own_e0 wz _ (Nat.le_refl _) | exact (own_e0 wz _ (Nat.le_refl _)).alloc _ | exact own_e1 wz _ _ (Nat.le_refl _)) _ _ _ (xs.take k) rfl hxt (by first | exact rT.alloc _ | exact (rT.alloc _).alloc _) hnD h1t (by unfold maxLen; omega) (by omega) (by first | omega | (simp; done) | (simp; omega)) ?_
                 intro v1 w1 o1 g1
                 have b1 : Below wz.heap.size wz w1 := by
                   first
                     | exact Below.grown (below_drew ((Below.refl _ wz).alloc (Nat.le_refl _) _)) g1 (by simp) (fun x hx => by cases hx; simp)
                     | exact Below.grown (below_drew (((Below.refl _ wz).alloc (Nat.le_refl _) _).alloc (by simp) _)) g1 (by first | omega | (simp; done) | (simp; omega)) (fun x hx => by cases hx; simp)
                 have c1 : w1.cell? ⟨g, o + i, none⟩ = some (.slice At ls[i].length ct) := (b1.cell (p := ⟨g, o + i, none⟩) (World.block_lt_of_cell? _ _ hctZ)).trans hctZ
                 have s1 := b1.size
                 first
                   | have q1 := q_before g1 rfl
                   | have q1 := q_after g1 rfl
                   | skip
                 clear g1)
              | (refine step_append_row rfl (.tmp 48) (.tmp 53) 22 rfl wz.heap.size 24 i0 (.slice none 0 0) 24 Try.underlying22 hi hz0 hz1 hz2 rfl v1 _ _ rfl (by first | exact o1 | exact o1.alloc _) _ _ _ [.slice At ls[i].length ct] rfl rfl (by first | exact row_one _ _ _ | exact q1) (fun h => by cases h) (one_slice _ _ _) (by unfold maxLen; omega) (by omega) (by first | omega | (simp; done) | (simp; omega)) ?_
                 intro v2 w2 o2 g2
                 have b2 : Below wz.heap.size wz w2 := by
                   first
                     | exact Below.grown b1 g2 s1 (fun x hx => (o1.lt x hx).1)
                     | exact Below.grown (b1.alloc s1 _) g2 (by first | omega | (simp; done) | (simp; omega)) (fun x hx => (o1.lt x hx).1)
                 clear g2)
              | (refine step_append_row rfl (.tmp 54) (.tmp 57) 22 rfl wz.heap.size 24 i0 (.slice none 0 0) 24 Try.underlying22 hi hz0 hz1 hz2 rfl v2 _ _ rfl o2 _ _ _ (xs.drop k) rfl hxd (rDn _ _) hnD' h1d (by unfold maxLen; omega) (by omega) (by have := b2.size; omega) ?_
                 intro v3 w3 o3 g3
                 have b3 : Below wz.heap.size wz w3 := Below.grown b2 g3 b2.size (fun x hx => (o2.lt x hx).1)
                 clear g3))
            all_goals
              have R := rput_round hlt HS.out HP.out (by omega) hk2 hbx HBt.out hbZ o3 b3
              clear o3 b3 o2 b2 o1 b1 c1 hctA hctZ hownZ
              go_wp2_with fail
              go_roundw
              case rel => first | exact R | ((repeat apply Exists.intro); exact ⟨R, rfl⟩)
              case measure => simp [intOf]; omega
    · have he : i = ls.length := by omega
      subst he
      rw [List.take_length] at hown hbx
      have R : MadeT (sortU ls) w (.returned u3) wr := ⟨_, xs, rfl, hown, hbx, hbr⟩
      clear hown hbx
      go_wp2_with fail
      go_ret
      exact R
end Go.Proofs.Ytjfiokcgmmmboaa
