/-
  The reference's Symbols.
-/
import Derived.Test.YthmfolekohomiaaMkP
import Derived.Test.YthmfolekohomiaaRefI
import Derived.Test.YthmfolekohomiaaMemI
import Derived.Deep.QuietTactic
import Derived.BigQuiet
import Derived.Deep.RegionLaw
import Derived.Deep.CutRange
namespace Go.Proofs.Ythmfolekohomiaa
open Go.RowKit

/-- The head of a round of Symbols. -/
def RSym (b : List Int) (w : World) (v i : Value) (wr : World) : Prop :=
  ∃ k : Nat, k ≤ b.length ∧ i = .int .i64 k ∧ wr.ownsRow w.heap.size 3 1 v (symU (b.take k)).length (iv (symU (b.take k))) ∧ Below w.heap.size w wr
/-- The head of a round of its search. -/
def RSeek (ds : List Int) (x : Int) (w : World) (v : Value) (i : Value) (wr : World) : Prop :=
  ∃ k : Nat, k ≤ ds.length ∧ i = .int .i64 k ∧ (∀ j y, j < k → ds[j]? = some y → y < x) ∧ wr.ownsRow w.heap.size 3 1 v ds.length (iv ds) ∧ Below w.heap.size w wr
/-- Behind a round that has put a number in. -/
theorem sput_round {b ds : List Int} {x : Int} {w wz w3 : World} {v : Value} {i k m : Nat} (hi : i < b.length) (hS : symU (b.take (i + 1)) = putU ds x) (hP : putU ds x = ds.take k ++ [x] ++ ds.drop k) (hl : (putU ds x).length = ds.length + 1) (hm : m = ds.length + 1) (_hk : k ≤ ds.length)
    (hb : Below w.heap.size w wz) (o3 : w3.ownsRow wz.heap.size 3 1 v m ([] ++ iv (ds.take k) ++ [.int .i64 x] ++ iv (ds.drop k))) (b3 : Below wz.heap.size wz w3) : RSym b w v (.int .i64 (i + 1 : Nat)) w3 := by
  have e : [] ++ iv (ds.take k) ++ [.int .i64 x] ++ iv (ds.drop k) = iv (putU ds x) := by rw [hP, iv_append, iv_append]; rfl
  rw [e] at o3
  refine ⟨i + 1, by omega, rfl, ?_, hb.trans (b3.mono hb.size)⟩
  rw [hS, hl, ← hm]
  exact own_lower o3 hb.size
theorem putU_there {ds : List Int} {x : Int} {k : Nat} (h1 : ∀ j y, j < k → ds[j]? = some y → y < x) (hk : ds[k]? = some x) : putU ds x = ds := by
  have hl : k < ds.length := (List.getElem?_eq_some_iff.1 hk).1
  have := posU_is h1 (by omega) (fun y hy => by rw [hk] at hy; injection hy with hy; omega)
  unfold putU
  rw [this, if_pos hk]
theorem putU_new {ds : List Int} {x : Int} {k : Nat} (h1 : ∀ j y, j < k → ds[j]? = some y → y < x) (hk : k ≤ ds.length) (h2 : ∀ y, ds[k]? = some y → x < y) : putU ds x = ds.take k ++ [x] ++ ds.drop k ∧ (putU ds x).length = ds.length + 1 := by
  have := posU_is h1 hk (fun y hy => Int.le_of_lt (h2 y hy))
  have e : putU ds x = ds.take k ++ [x] ++ ds.drop k := by
    unfold putU
    rw [this, if_neg (fun e => by have := h2 x e; omega)]
  refine ⟨e, ?_⟩
  rw [e]
  simp
  omega

set_option maxRecDepth 100000 in
set_option maxHeartbeats 4000000 in
theorem refSym_any (A : Option Addr) (n c : Nat) (b : List Int) (w : World) (hn : b.length = n) (hb : n ≤ 1048576) (hr : Row w A (iv b)) :
    Calls Try.prog 17 #[.slice A n c] w (MadeI (symU b) w) := by
  obtain ⟨i0, hi, hz0, hz1, hz2⟩ := info_parts Try.infoInt
  subst hn
  go_enter Try.func17, Try.ntmps17
  go_wp2_with fail
  go_loopw [3, 4] (fun v i wr => RSym b w v i wr) (fun _ i _ => b.length - (intOf i).toNat)
  case atStart => exact ⟨0, Nat.zero_le _, rfl, World.ownsRow_nil _ _ _ _, Below.refl _ _⟩
  case round =>
    obtain ⟨i, hk, rfl, hown, hbr⟩ := hrel
    by_cases hlt : i < b.length
    · have hln := symU_length (b.take i)
      rw [List.length_take] at hln
      have HS : Hid (symU (b.take (i + 1)) = putU (symU (b.take i)) b[i]) := symU_next (List.getElem?_eq_getElem hlt)
      obtain ⟨g, o, rfl, hct0⟩ := hr.int hlt
      generalize b[i] = x at *
      generalize symU (b.take i) = ds at *
      obtain ⟨D, cD, rfl, hD1, hD2, hD3, hD4⟩ := own_slice hown
      clear hr
      go_wp2_with fail
      go_loopw [5] (fun k wx => RSeek ds x w (.slice D ds.length cD) k wx) (fun k _ => ds.length - (intOf k).toNat)
      case atStart => exact ⟨0, Nat.zero_le _, rfl, fun j y hj => by omega, hown, hbr⟩
      case round =>
        clear hown hbr hD3
        obtain ⟨k, hk2, rfl, hall, hown, hbr⟩ := hrel
        have HA := Lib.hid hall
        clear hall
        have hct : wr.cell? ⟨g, o + i, none⟩ = some (.int .i64 x) := (hbr.cell (p := ⟨g, o + i, none⟩) (World.block_lt_of_cell? _ _ hct0)).trans hct0
        by_cases hk3 : k < ds.length
        · obtain ⟨gd, od, rfl, hcd⟩ := (Row.of_own hown).int hk3
          have HY : Hid (ds[k]? = some ds[k]) := List.getElem?_eq_getElem hk3
          generalize ds[k] = y at *
          by_cases hlb : y < x
          · have R : ∀ q, RSeek ds x w (.slice (some ⟨gd, od, none⟩) ds.length cD) (.int .i64 (k + 1 : Nat)) (wr.drewN q) := fun q => by
              refine ⟨k + 1, by omega, rfl, fun j y' hj hy' => ?_, hown, below_drewN hbr q⟩
              by_cases e : j = k
              · subst e
                rw [HY.out] at hy'
                injection hy' with hy'
                omega
              · exact HA.out j y' (by omega) hy'
            have RR := Lib.hid R
            clear R hown
            go_wp2_with fail
            go_quiet (fail)
            go_wp2_with fail
            go_roundw
            case rel => exact RR.out _
            case measure => simp [intOf]; omega
          · have hlf : decide (y < x) = false := decide_eq_false hlb
            go_wp2_with fail
            go_quiet (fail)
            have hownY : (wr.drewN nq).ownsRow w.heap.size 3 1 (.slice (some ⟨gd, od, none⟩) ds.length cD) ds.length (iv ds) := hown
            have hbY := below_drewN hbr nq
            have hctY : (wr.drewN nq).cell? ⟨g, o + i, none⟩ = _ := hct
            have hcdY : (wr.drewN nq).cell? ⟨gd, od + k, none⟩ = _ := hcd
            clear hown hbr hct hcd
            generalize wr.drewN nq = wy at *
            have hke : ((k : Int) == (ds.length : Int)) = false := by rw [beq_eq_false_iff_ne]; omega
            by_cases heq : y = x
            · subst heq
              have R : ∀ q, RSym b w (.slice (some ⟨gd, od, none⟩) ds.length cD) (.int .i64 (i + 1 : Nat)) (wy.drewN q) := fun q => by
                refine ⟨i + 1, by omega, rfl, ?_, below_drewN hbY q⟩
                rw [HS.out, putU_there HA.out HY.out]
                exact hownY
              have RR := Lib.hid R
              have hne : (y != y) = false := by simp
              clear R hownY
              go_wp2_with fail
              go_quiet (fail)
              go_wp2_with fail
              go_roundw
              case rel => first | exact RR.out _ | ((repeat apply Exists.intro); exact ⟨RR.out _, rfl⟩)
              case measure => simp [intOf]; omega
            · have hne : (y != x) = true := by simpa using heq
              obtain ⟨HP0, hdl⟩ := putU_new HA.out hk2 (fun y' hy' => by rw [HY.out] at hy'; injection hy' with hy'; omega)
              have HP := Lib.hid HP0
              clear HP0 heq
              go_wp2_with fail
              go_quiet (fail)
              have hownZ : (wy.drewN nq).ownsRow w.heap.size 3 1 (.slice (some ⟨gd, od, none⟩) ds.length cD) ds.length (iv ds) := hownY
              have hbZ := below_drewN hbY nq
              have hctZ : (wy.drewN nq).cell? ⟨g, o + i, none⟩ = _ := hctY
              clear hownY hbY hctY hcdY
              generalize wy.drewN nq = wz at *
              have hkc : k ≤ cD := by omega
              have hcD : ¬ cD = k := by omega
              have hszZ := hbZ.size
              have hxt : (iv (ds.take k)).length = k := by rw [iv_length, List.length_take]; omega
              have hxd : (iv (ds.drop k)).length = ds.length - k := by rw [iv_length, List.length_drop]
              have rZ : Row wz (some ⟨gd, od, none⟩) (iv ds) := Row.of_own hownZ
              have rT := rZ.take k
              have rD := rZ.drop k
              simp only [Option.map_some, Addr.add_lit] at rD
              rw [show (iv ds).take k = iv (ds.take k) by simp [iv, List.map_take]] at rT
              rw [show (iv ds).drop k = iv (ds.drop k) by simp [iv, List.map_drop]] at rD
              clear rZ
              have hnD : (some (⟨gd, od, none⟩ : Addr)) = none → cD = 0 := fun h => by cases h
              have hnD' : (some (⟨gd, od + k, none⟩ : Addr)) = none → cD - k = 0 := fun h => by cases h
              have hctA : ∀ o', (wz.alloc o').cell? ⟨g, o + i, none⟩ = some (.int .i64 x) := fun o' => ((Below.refl _ wz).alloc (Nat.le_refl _) o').cell (p := ⟨g, o + i, none⟩) (World.block_lt_of_cell? _ _ hctZ) |>.trans hctZ
              go_wp2_with fail
              go_region_law (first
                | (refine step_append_row rfl (.tmp 44) (.tmp 47) 22 rfl wz.heap.size 3 i0 (.int .i64 0) 8 Try.underlying22 hi hz0 hz1 hz2 rfl _ 0 [] rfl (by first | exact own_e0 wz _ (Nat.le_refl _) | exact (own_e0 wz _ (Nat.le_refl _)).alloc _ | exact own_e1 wz _ _ (Nat.le_refl _)) _ _ _ (iv (ds.take k)) rfl hxt (by first | exact rT.alloc _ | exact (rT.alloc _).alloc _) hnD (iv_one _) (by unfold maxLen; omega) (by omega) (by first | omega | (simp; done) | (simp; omega)) ?_
                   intro v1 w1 o1 g1
                   have b1 : Below wz.heap.size wz w1 := by
                     first
                       | exact Below.grown (below_drew ((Below.refl _ wz).alloc (Nat.le_refl _) _)) g1 (by simp) (fun x hx => by cases hx; simp)
                       | exact Below.grown (below_drew (((Below.refl _ wz).alloc (Nat.le_refl _) _).alloc (by simp) _)) g1 (by first | omega | (simp; done) | (simp; omega)) (fun x hx => by cases hx; simp)
                   have c1 : w1.cell? ⟨g, o + i, none⟩ = some (.int .i64 x) := (b1.cell (p := ⟨g, o + i, none⟩) (World.block_lt_of_cell? _ _ hctZ)).trans hctZ
                   have s1 := b1.size
                   first
                     | have q1 := q_before g1 rfl
                     | have q1 := q_after g1 rfl
                     | skip
                   clear g1)
                | (refine step_append_row rfl (.tmp 48) (.tmp 53) 22 rfl wz.heap.size 3 i0 (.int .i64 0) 8 Try.underlying22 hi hz0 hz1 hz2 rfl v1 _ _ rfl (by first | exact o1 | exact o1.alloc _) _ _ _ [.int .i64 x] rfl rfl (by first | exact row_one _ _ _ | exact q1) (fun h => by cases h) (one_int _ _) (by unfold maxLen; omega) (by omega) (by first | omega | (simp; done) | (simp; omega)) ?_
                   intro v2 w2 o2 g2
                   have b2 : Below wz.heap.size wz w2 := by
                     first
                       | exact Below.grown b1 g2 s1 (fun x hx => (o1.lt x hx).1)
                       | exact Below.grown (b1.alloc s1 _) g2 (by first | omega | (simp; done) | (simp; omega)) (fun x hx => (o1.lt x hx).1)
                   clear g2)
                | (refine step_append_row rfl (.tmp 54) (.tmp 57) 22 rfl wz.heap.size 3 i0 (.int .i64 0) 8 Try.underlying22 hi hz0 hz1 hz2 rfl v2 _ _ rfl o2 _ _ _ (iv (ds.drop k)) rfl hxd (rD.below b2) hnD' (iv_one _) (by unfold maxLen; omega) (by omega) (by have := b2.size; omega) ?_
                   intro v3 w3 o3 g3
                   have b3 : Below wz.heap.size wz w3 := Below.grown b2 g3 b2.size (fun x hx => (o2.lt x hx).1)
                   clear g3))
              all_goals
                have R := sput_round hlt HS.out HP.out hdl (by omega) hk2 hbZ o3 b3
                clear o3 b3 o2 b2 o1 b1 c1 hctZ hownZ
                go_wp2_with fail
                go_roundw
                case rel => first | exact R | ((repeat apply Exists.intro); exact ⟨R, rfl⟩)
                case measure => simp [intOf]; omega
        · have hkl : k = ds.length := by omega
          obtain ⟨HP0, hdl⟩ := putU_new HA.out hk2 (fun y' hy' => by rw [List.getElem?_eq_none (by omega)] at hy'; cases hy')
          have HP := Lib.hid HP0
          have HKL := Lib.hid hkl
          clear hkl HP0
          have hdk : decide ((k : Int) < (ds.length : Int)) = false := by rw [decide_eq_false_iff_not]; omega
          have hdn : decide (k < ds.length) = false := by rw [decide_eq_false_iff_not]; omega
          have hke : ((k : Int) == (ds.length : Int)) = true := by rw [beq_iff_eq, HKL.out]
          go_wp2_with fail
          go_quiet (fail)
          have hownY : (wr.drewN nq).ownsRow w.heap.size 3 1 (.slice D ds.length cD) ds.length (iv ds) := hown
          have hbY := below_drewN hbr nq
          have hctY : (wr.drewN nq).cell? ⟨g, o + i, none⟩ = _ := hct
          clear hown hbr hct
          generalize wr.drewN nq = wy at *
          go_wp2_with fail
          go_quiet (fail)
          have hownZ : (wy.drewN nq).ownsRow w.heap.size 3 1 (.slice D ds.length cD) ds.length (iv ds) := hownY
          have hbZ := below_drewN hbY nq
          have hctZ : (wy.drewN nq).cell? ⟨g, o + i, none⟩ = _ := hctY
          clear hownY hbY hctY
          generalize wy.drewN nq = wz at *
          have hkc : k ≤ cD := by omega
          have hszZ := hbZ.size
          have hxt : (iv (ds.take k)).length = k := by rw [iv_length, List.length_take]; omega
          have hxd : (iv (ds.drop k)).length = ds.length - k := by rw [iv_length, List.length_drop]
          have rT := (Row.of_own hownZ).take k
          rw [show (iv ds).take k = iv (ds.take k) by simp [iv, List.map_take]] at rT
          have hxn : ds.drop k = [] := List.drop_eq_nil_of_le (by omega)
          have rDn : ∀ (W : World) (X : Option Addr), Row W X (iv (ds.drop k)) := fun W X => by rw [hxn]; exact Row.nil _ _
          clear hxn
          have hnD : D = none → cD = 0 := hD4
          have hctA : ∀ o', (wz.alloc o').cell? ⟨g, o + i, none⟩ = some (.int .i64 x) := fun o' => ((Below.refl _ wz).alloc (Nat.le_refl _) o').cell (p := ⟨g, o + i, none⟩) (World.block_lt_of_cell? _ _ hctZ) |>.trans hctZ
          by_cases hcD : cD = k
          · have hnD : D = none → k = 0 := fun h => by have := hD4 h; omega
            go_wp2_with fail
            go_region_law (first
              | (refine step_append_row rfl (.tmp 44) (.tmp 47) 22 rfl wz.heap.size 3 i0 (.int .i64 0) 8 Try.underlying22 hi hz0 hz1 hz2 rfl _ 0 [] rfl (by first | exact own_e0 wz _ (Nat.le_refl _) | exact (own_e0 wz _ (Nat.le_refl _)).alloc _ | exact own_e1 wz _ _ (Nat.le_refl _)) _ _ _ (iv (ds.take k)) rfl hxt (by first | exact rT.alloc _ | exact (rT.alloc _).alloc _) hnD (iv_one _) (by unfold maxLen; omega) (by omega) (by first | omega | (simp; done) | (simp; omega)) ?_
                 intro v1 w1 o1 g1
                 have b1 : Below wz.heap.size wz w1 := by
                   first
                     | exact Below.grown (below_drew ((Below.refl _ wz).alloc (Nat.le_refl _) _)) g1 (by simp) (fun x hx => by cases hx; simp)
                     | exact Below.grown (below_drew (((Below.refl _ wz).alloc (Nat.le_refl _) _).alloc (by simp) _)) g1 (by first | omega | (simp; done) | (simp; omega)) (fun x hx => by cases hx; simp)
                 have c1 : w1.cell? ⟨g, o + i, none⟩ = some (.int .i64 x) := (b1.cell (p := ⟨g, o + i, none⟩) (World.block_lt_of_cell? _ _ hctZ)).trans hctZ
                 have s1 := b1.size
                 first
                   | have q1 := q_before g1 rfl
                   | have q1 := q_after g1 rfl
                   | skip
                 clear g1)
              | (refine step_append_row rfl (.tmp 48) (.tmp 53) 22 rfl wz.heap.size 3 i0 (.int .i64 0) 8 Try.underlying22 hi hz0 hz1 hz2 rfl v1 _ _ rfl (by first | exact o1 | exact o1.alloc _) _ _ _ [.int .i64 x] rfl rfl (by first | exact row_one _ _ _ | exact q1) (fun h => by cases h) (one_int _ _) (by unfold maxLen; omega) (by omega) (by first | omega | (simp; done) | (simp; omega)) ?_
                 intro v2 w2 o2 g2
                 have b2 : Below wz.heap.size wz w2 := by
                   first
                     | exact Below.grown b1 g2 s1 (fun x hx => (o1.lt x hx).1)
                     | exact Below.grown (b1.alloc s1 _) g2 (by first | omega | (simp; done) | (simp; omega)) (fun x hx => (o1.lt x hx).1)
                 clear g2)
              | (refine step_append_row rfl (.tmp 54) (.tmp 57) 22 rfl wz.heap.size 3 i0 (.int .i64 0) 8 Try.underlying22 hi hz0 hz1 hz2 rfl v2 _ _ rfl o2 _ _ _ (iv (ds.drop k)) rfl hxd (rDn _ _) (fun _ => rfl) (iv_one _) (by unfold maxLen; omega) (by omega) (by have := b2.size; omega) ?_
                 intro v3 w3 o3 g3
                 have b3 : Below wz.heap.size wz w3 := Below.grown b2 g3 b2.size (fun x hx => (o2.lt x hx).1)
                 clear g3))
            all_goals
              have R := sput_round hlt HS.out HP.out hdl (by omega) hk2 hbZ o3 b3
              clear o3 b3 o2 b2 o1 b1 c1 hctZ hownZ
              go_wp2_with fail
              go_roundw
              case rel => first | exact R | ((repeat apply Exists.intro); exact ⟨R, rfl⟩)
              case measure => simp [intOf]; omega
          · have hnD' : Option.map (fun x => x.add k) D = none → cD - k = 0 := fun h => by
              cases D with
              | none => have := hD4 rfl; omega
              | some a => cases h
            go_wp2_with fail
            go_region_law (first
              | (refine step_append_row rfl (.tmp 44) (.tmp 47) 22 rfl wz.heap.size 3 i0 (.int .i64 0) 8 Try.underlying22 hi hz0 hz1 hz2 rfl _ 0 [] rfl (by first | exact own_e0 wz _ (Nat.le_refl _) | exact (own_e0 wz _ (Nat.le_refl _)).alloc _ | exact own_e1 wz _ _ (Nat.le_refl _)) _ _ _ (iv (ds.take k)) rfl hxt (by first | exact rT.alloc _ | exact (rT.alloc _).alloc _) hnD (iv_one _) (by unfold maxLen; omega) (by omega) (by first | omega | (simp; done) | (simp; omega)) ?_
                 intro v1 w1 o1 g1
                 have b1 : Below wz.heap.size wz w1 := by
                   first
                     | exact Below.grown (below_drew ((Below.refl _ wz).alloc (Nat.le_refl _) _)) g1 (by simp) (fun x hx => by cases hx; simp)
                     | exact Below.grown (below_drew (((Below.refl _ wz).alloc (Nat.le_refl _) _).alloc (by simp) _)) g1 (by first | omega | (simp; done) | (simp; omega)) (fun x hx => by cases hx; simp)
                 have c1 : w1.cell? ⟨g, o + i, none⟩ = some (.int .i64 x) := (b1.cell (p := ⟨g, o + i, none⟩) (World.block_lt_of_cell? _ _ hctZ)).trans hctZ
                 have s1 := b1.size
                 first
                   | have q1 := q_before g1 rfl
                   | have q1 := q_after g1 rfl
                   | skip
                 clear g1)
              | (refine step_append_row rfl (.tmp 48) (.tmp 53) 22 rfl wz.heap.size 3 i0 (.int .i64 0) 8 Try.underlying22 hi hz0 hz1 hz2 rfl v1 _ _ rfl (by first | exact o1 | exact o1.alloc _) _ _ _ [.int .i64 x] rfl rfl (by first | exact row_one _ _ _ | exact q1) (fun h => by cases h) (one_int _ _) (by unfold maxLen; omega) (by omega) (by first | omega | (simp; done) | (simp; omega)) ?_
                 intro v2 w2 o2 g2
                 have b2 : Below wz.heap.size wz w2 := by
                   first
                     | exact Below.grown b1 g2 s1 (fun x hx => (o1.lt x hx).1)
                     | exact Below.grown (b1.alloc s1 _) g2 (by first | omega | (simp; done) | (simp; omega)) (fun x hx => (o1.lt x hx).1)
                 clear g2)
              | (refine step_append_row rfl (.tmp 54) (.tmp 57) 22 rfl wz.heap.size 3 i0 (.int .i64 0) 8 Try.underlying22 hi hz0 hz1 hz2 rfl v2 _ _ rfl o2 _ _ _ (iv (ds.drop k)) rfl hxd (rDn _ _) hnD' (iv_one _) (by unfold maxLen; omega) (by omega) (by have := b2.size; omega) ?_
                 intro v3 w3 o3 g3
                 have b3 : Below wz.heap.size wz w3 := Below.grown b2 g3 b2.size (fun x hx => (o2.lt x hx).1)
                 clear g3))
            all_goals
              have R := sput_round hlt HS.out HP.out hdl (by omega) hk2 hbZ o3 b3
              clear o3 b3 o2 b2 o1 b1 c1 hctZ hownZ
              go_wp2_with fail
              go_roundw
              case rel => first | exact R | ((repeat apply Exists.intro); exact ⟨R, rfl⟩)
              case measure => simp [intOf]; omega
    · have he : i = b.length := by omega
      subst he
      rw [List.take_length] at hown
      have R : MadeI (symU b) w (.returned u3) wr := ⟨_, rfl, hown, hbr⟩
      clear hown
      go_wp2_with fail
      go_ret
      exact R

end Go.Proofs.Ythmfolekohomiaa
