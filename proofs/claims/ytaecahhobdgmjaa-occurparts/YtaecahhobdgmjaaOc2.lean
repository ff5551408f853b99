/-
  Core of the statement OccurParts (over the contracts of package occur).
-/
import Derived.Test.YtaecahhobdgmjaaOc1
namespace Go.Proofs.Ytaecahhobdgmjaa
open Go.RowKit

theorem sum_ind (x : Int) : ∀ n : Nat, ((List.range n).map fun k : Nat => if (k : Int) = x then 1 else 0).sum = if 0 ≤ x ∧ x < (n : Int) then 1 else 0
  | 0 => by rw [if_neg (by omega)]; rfl
  | n + 1 => by
    rw [List.range_succ, List.map_append, List.sum_append, sum_ind x n]
    simp only [List.map_cons, List.map_nil, List.sum_cons, List.sum_nil, Nat.add_zero]
    by_cases e : (n : Int) = x
    · rw [if_pos e, if_neg (by omega), if_pos (by omega)]
    · rw [if_neg e]
      by_cases h : 0 ≤ x ∧ x < (n : Int)
      · rw [if_pos h, if_pos (by omega)]
      · rw [if_neg h, if_neg (by omega)]
theorem sum_two (f g : Nat → Nat) : ∀ n : Nat, ((List.range n).map fun k => f k + g k).sum = ((List.range n).map f).sum + ((List.range n).map g).sum
  | 0 => rfl
  | n + 1 => by
    rw [List.range_succ, List.map_append, List.sum_append, sum_two f g n, List.map_append, List.sum_append, List.map_append, List.sum_append]
    simp only [List.map_cons, List.map_nil, List.sum_cons, List.sum_nil]
    omega
theorem sum_counts (n : Nat) : ∀ b : List Int, allN n b = true → ((List.range n).map fun k : Nat => b.count (k : Int)).sum = b.length
  | [], _ => by
    have : ((List.range n).map fun k : Nat => ([] : List Int).count (k : Int)) = (List.range n).map fun _ => 0 := by simp
    rw [this]
    induction n with
    | zero => rfl
    | succ n ih => rw [List.range_succ, List.map_append, List.sum_append, ih (by rfl) (by simp)]; rfl
  | x :: b, h => by
    unfold allN at h
    simp only [List.all_cons, Bool.and_eq_true, decide_eq_true_eq] at h
    have e : ((List.range n).map fun k : Nat => (x :: b).count (k : Int)) = (List.range n).map fun k : Nat => b.count (k : Int) + if (k : Int) = x then 1 else 0 := by
      apply List.map_congr_left
      intro k _
      rw [List.count_cons]
      congr 1
      by_cases e : (k : Int) = x
      · rw [if_pos e, if_pos (by simp [e])]
      · rw [if_neg e, if_neg (by simpa using fun h : x = (k : Int) => e h.symm)]
    rw [e, sum_two, sum_counts n b h.2, sum_ind, if_pos h.1, List.length_cons]

/-- How many places the first s numbers have. -/
def cntS (b : List Int) (s : Nat) : Nat := ((List.range s).map fun k => (plc b k).length).sum
theorem cntS_step (b : List Int) (s : Nat) : cntS b (s + 1) = cntS b s + (plc b s).length := by simp [cntS, List.range_succ]
theorem cntS_le (b : List Int) (hb : b.length ≤ 80) : ∀ s, cntS b s ≤ s * 80
  | 0 => by simp [cntS]
  | s + 1 => by
    have := cntS_le b hb s
    have := plc_length b s
    rw [cntS_step]
    omega
theorem cntS_all {n : Nat} {b : List Int} (h : fitsN n b = true) : cntS b n = b.length := by
  unfold fitsN at h
  rw [Bool.and_eq_true] at h
  rw [← sum_counts n b h.2]
  unfold cntS
  congr 1
  apply List.map_congr_left
  intro k _
  exact plc_count b k

def PaOut (ys : List Int) (L : List (List Int)) (w : World) (n most s : Value) (wr : World) : Prop := ∃ k : Nat, k ≤ 8 ∧ s = .int .i64 (k : Int) ∧ n = .int .i64 (cntS ys k : Nat) ∧ most = .int .i64 (mostOf (L.take k) : Nat) ∧ w = wr
def PaIn (ys : List Int) (s : Nat) (w : World) (n k : Value) (wr : World) : Prop := ∃ t : Nat, t ≤ (plc ys s).length ∧ k = .int .i64 (t : Int) ∧ n = .int .i64 ((cntS ys s + t : Nat) : Int) ∧ w = wr

theorem most_le {L : List (List Int)} (h : ∀ l ∈ L, l.length ≤ 80) : ∀ k, mostOf (L.take k) ≤ 80
  | 0 => by simp [mostOf]
  | k + 1 => by
    have ih := most_le h k
    by_cases hk : k < L.length
    · rw [most_step (List.getElem?_eq_getElem hk)]
      have := h _ (List.getElem_mem hk)
      omega
    · have h1 : L.take (k + 1) = L := List.take_of_length_le (by omega)
      have h2 : L.take k = L := List.take_of_length_le (by omega)
      rw [h1]
      rw [h2] at ih
      exact ih

set_option maxRecDepth 100000 in
set_option maxHeartbeats 3200000 in
theorem occurParts_core (hO : OfOK) (hM : MostOK) (B : Option Addr) (m d : Nat) (b : List Int) (w : World) (hb : ArgI w B m d b) :
    Calls Try.prog 7 #[.slice B m d] w (Yes w) := by
  obtain ⟨hm, hd, hdm, hr, _, _⟩ := hb
  have HM := Lib.hid hm
  unfold maxLen at hdm
  clear hm
  by_cases hN : m ≤ 80
  · go_enter Try.func7, Try.ntmps7
    go_wp2_with fail
    refine (awake_core hO hM _).mono ?_
    rintro e w1 ⟨rfl, hb1⟩
    have hr1 := hr.below hb1
    clear hr
    go_wp2_with fail
    refine (few_any B m d b 8 w1 HM.out (by omega) (by decide) (by decide) hr1).mono ?_
    rintro e w2 ⟨y, rfl, oy, b2⟩
    have hb2 := below_go hb1 b2
    have HY : Hid ((few 8 b).length = m) := by show _ = _; rw [few_length, HM.out]
    rw [HY.out] at oy
    obtain ⟨Y, cY, rfl, yc, ym, rY, _⟩ := own_slice oy
    have HFit : Hid (fitsN 8 (few 8 b) = true) := few_fits 8 b (by decide) (by decide)
    clear oy b2 hb1 hr1
    generalize few 8 b = ys at *
    go_wp2_with fail
    refine (hO 8 Y m cY ys w2 (i64_small (by decide)) HY.out (by omega) yc ym rY).mono ?_
    rintro e w3 ⟨o, rfl, ho, b3⟩
    have hb3 := below_go hb2 b3
    have rY3 := rY.below b3
    have hPE : placesE 8 ys = 0 := (places_fit (n := 8) HFit.out).2
    have hPU : placesU 8 ys = (List.range 8).map (plc ys) := (places_fit (n := 8) HFit.out).1
    have HC : Hid (cntS ys 8 = m) := by show _ = _; rw [cntS_all HFit.out, HY.out]
    rw [hPE]
    rw [hPU] at ho
    have hLat : ∀ k, k < 8 → ((List.range 8).map (plc ys))[k]? = some (plc ys k) := fun k hk => by rw [List.getElem?_map, List.getElem?_range hk]; rfl
    have hLl : ((List.range 8).map (plc ys)).length = 8 := by simp
    have hLs : ∀ l ∈ (List.range 8).map (plc ys), l.length ≤ 80 := fun l hl => by
      obtain ⟨k, _, rfl⟩ := List.mem_map.1 hl
      have := plc_length ys k
      rw [HY.out] at this
      omega
    obtain ⟨O, cO, os, rfl, oc, om, rO, sO, _⟩ := ho
    rw [hLl] at oc
    rw [hLl]
    clear b3 hb2 rY hPE hPU
    generalize (List.range 8).map (plc ys) = L at *
    have HLl := Lib.hid hLl
    have HLa := Lib.hid hLat
    have HLs := Lib.hid hLs
    clear hLl hLat hLs
    go_wp2_with fail
    go_loopw [6, 7, 8] (fun n most s wr => PaOut ys L w3 n most s wr) (fun _ _ s _ => 8 - (intOf s).toNat)
    case atStart => exact ⟨0, by omega, rfl, rfl, rfl, rfl⟩
    case round =>
      obtain ⟨k, hk, rfl, rfl, rfl, rfl⟩ := hrel
      have hcl := cntS_le ys (by rw [HY.out]; exact hN) k
      have hml := most_le HLs.out k
      by_cases hlt : k < 8
      · obtain ⟨hkL, eL⟩ := List.getElem?_eq_some_iff.1 (HLa.out k hlt)
        obtain ⟨g, o, P, cP, rfl, hc, pc, pm, rP, _⟩ := ISs.cell rO sO hkL
        rw [eL] at hc pc rP
        have hpl := plc_length ys k
        rw [HY.out] at hpl
        have HMS := Lib.hid (most_step (HLa.out k hlt))
        have HCS := Lib.hid (cntS_step ys k)
        clear eL hkL
        go_wp2_with fail
        go_loopw [6, 9] (fun n t wr => PaIn ys k w3 n t wr) (fun _ t _ => (plc ys k).length - (intOf t).toNat)
        case atStart => exact ⟨0, Nat.zero_le _, rfl, rfl, rfl⟩
        case round =>
          obtain ⟨t, ht, rfl, rfl, rfl⟩ := hrel
          by_cases hlt' : t < (plc ys k).length
          · obtain ⟨g', o', rfl, hj⟩ := rP.int hlt'
            obtain ⟨j, ej, hyj⟩ := plc_mem (List.getElem_mem hlt')
            rw [ej] at hj
            obtain ⟨hjl, ejj⟩ := List.getElem?_eq_some_iff.1 hyj
            obtain ⟨gy, oy, rfl, hy⟩ := rY3.int hjl
            rw [ejj] at hy
            rw [HY.out] at hjl
            have R : PaIn ys k w3 (.int .i64 ((cntS ys k + t + 1 : Nat) : Int)) (.int .i64 (t + 1 : Nat)) w3 := ⟨t + 1, by omega, rfl, rfl, rfl⟩
            cases t with
            | zero =>
              clear ej ejj hyj rP rY3
              have hj0 : w3.cell? ⟨g', o', none⟩ = some (.int .i64 (j : Int)) := hj
              have z1 : decide ((j : Int) < 0) = false := by simp
              have z2 : decide ((m : Int) ≤ (j : Int)) = false := by simp; omega
              have z3 : decide (m ≤ j) = false := by simp; omega
              clear hj
              generalize cntS ys k = N at *
              generalize (plc ys k).length = M at *
              go_wp2_with fail
              go_roundw
              case rel => first | exact R | ((repeat apply Exists.intro); exact ⟨R, rfl⟩)
              case measure => simp [intOf]; omega
            | succ t =>
              obtain ⟨_, _, eP, hp⟩ := rP.int (show t < (plc ys k).length by omega)
              cases eP
              obtain ⟨jp, ep, _⟩ := plc_mem (List.getElem_mem (show t < (plc ys k).length by omega))
              rw [ep] at hp
              have hasc := (List.pairwise_iff_getElem.1 (plc_asc ys k)) t (t + 1) (by omega) hlt' (by omega)
              rw [ej, ep] at hasc
              have z1 : decide ((j : Int) < 0) = false := by simp
              have z2 : decide ((m : Int) ≤ (j : Int)) = false := by simp; omega
              have z3 : decide (m ≤ j) = false := by simp; omega
              have z4 : decide ((j : Int) ≤ (jp : Int)) = false := by simp; omega
              have z5 : decide (j ≤ jp) = false := by simp; omega
              have ks : ((t + 1 : Nat) : Int) - 1 = (t : Int) := by omega
              clear ej ejj hyj rP rY3 ep
              generalize cntS ys k = N at *
              generalize (plc ys k).length = M at *
              go_wp2_with fail
              go_roundw
              case rel => first | exact R | ((repeat apply Exists.intro); exact ⟨R, rfl⟩)
              case measure => simp [intOf]; omega
          · have htl : t = (plc ys k).length := by omega
            subst htl
            have R : ∀ M, M = max (mostOf (L.take k)) (plc ys k).length → PaOut ys L w3 (.int .i64 ((cntS ys k + (plc ys k).length : Nat) : Int)) (.int .i64 (M : Nat)) (.int .i64 (k + 1 : Nat)) w3 := fun M hM => ⟨k + 1, by omega, rfl, by rw [HCS.out], by rw [HMS.out, hM], rfl⟩
            have HRR := Lib.hid R
            clear R
            by_cases hx : mostOf (L.take k) < (plc ys k).length
            · have R := HRR.out _ (show (plc ys k).length = _ by omega)
              clear HRR HMS HCS
              generalize mostOf (L.take k) = X at *
              go_wp2_with fail
              go_roundw
              case rel => first | exact R | ((repeat apply Exists.intro); exact ⟨R, rfl⟩)
              case measure => simp [intOf]; omega
            · have R := HRR.out _ (show mostOf (L.take k) = _ by omega)
              clear HRR HMS HCS
              generalize mostOf (L.take k) = X at *
              go_wp2_with fail
              go_roundw
              case rel => first | exact R | ((repeat apply Exists.intro); exact ⟨R, rfl⟩)
              case measure => simp [intOf]; omega
      · have hk8 : k = 8 := by omega
        subst hk8
        rw [HC.out, List.take_of_length_le (by rw [HLl.out]; omega)]
        rw [List.take_of_length_le (by rw [HLl.out]; omega)] at hml
        clear hcl hlt hk
        go_wp2_with fail
        refine (hM O 8 cO os L w3 HLl.out oc om (by decide) (fun l hl => Nat.le_trans (HLs.out l hl) (by decide)) rO sO).mono ?_
        rintro e w4 ⟨rfl, b4⟩
        have hb4 := below_go hb3 b4
        clear b4 hb3 rO sO rY3
        generalize mostOf L = X at *
        go_wp2_with fail
        go_ret
        exact Yes.of hb4
  · go_enter Try.func7, Try.ntmps7
    go_wp2_with fail
    refine (awake_core hO hM _).mono ?_
    rintro e w1 ⟨rfl, hb1⟩
    go_wp2_with fail
    go_ret
    exact Yes.of hb1

end Go.Proofs.Ytaecahhobdgmjaa
