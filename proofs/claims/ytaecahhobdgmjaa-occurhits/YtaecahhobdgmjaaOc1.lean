/-
  Cores of the statements OccurSays, OccurNext, OccurHits (over the contracts of package occur).
-/
import Derived.Test.YtaecahhobdgmjaaOc0
import Derived.Test.YtaecahhobdgmjaaFew
import Derived.Test.YtaecahhobdgmjaaArgsI
import Derived.Deep.DeepCutAuto
namespace Go.Proofs.Ytaecahhobdgmjaa
open Go.RowKit

theorem plc_mem {b : List Int} {k : Nat} {j : Int} (h : j ∈ plc b k) : ∃ t : Nat, j = (t : Int) ∧ b[t]? = some (k : Int) := by
  unfold plc plcT at h
  obtain ⟨t, ht, rfl⟩ := List.mem_map.1 h
  rw [List.mem_filter] at ht
  exact ⟨t, rfl, by simpa using ht.2⟩
theorem plc_asc (b : List Int) (k : Nat) : (plc b k).Pairwise (· < ·) := by
  unfold plc plcT
  rw [List.pairwise_map]
  exact (List.pairwise_lt_range.filter _).imp fun {x y} h => by omega
theorem plc_length (b : List Int) (k : Nat) : (plc b k).length ≤ b.length := plcT_length b b.length k
theorem plcT_count (b : List Int) (k : Nat) : ∀ t, t ≤ b.length → (plcT b t k).length = (b.take t).count (k : Int)
  | 0, _ => by simp [plcT_zero]
  | t + 1, h => by
    have ih := plcT_count b k t (by omega)
    have hx := List.getElem?_eq_getElem (show t < b.length by omega)
    rw [count_step hx]
    unfold plcT at ih ⊢
    rw [List.range_succ, List.filter_append, List.map_append, List.length_append, ih]
    congr 1
    by_cases e : (k : Int) = b[t]
    · rw [if_pos e]
      simp [hx, e]
    · rw [if_neg e]
      have hn : decide (b[t]? = some (k : Int)) = false := by
        rw [decide_eq_false_iff_not, hx]
        exact fun h => e (Option.some.inj h).symm
      simp [hn]
theorem plc_count (b : List Int) (k : Nat) : (plc b k).length = b.count (k : Int) := by
  unfold plc
  rw [plcT_count b k b.length (Nat.le_refl _), List.take_length]
theorem places_asc (n : Int) (b : List Int) (hb : b.length ≤ 1048576) : Asc (placesU n b) := by
  unfold placesU
  split
  · rename_i h
    have hn : 0 ≤ n ∧ n ≤ 1048576 := by unfold fitsN at h; simp only [Bool.and_eq_true, decide_eq_true_eq] at h; exact h.1
    refine ⟨by simp; omega, fun l hl => ?_⟩
    obtain ⟨k, _, rfl⟩ := List.mem_map.1 hl
    exact ⟨Nat.le_trans (plc_length b k) hb, plc_asc b k⟩
  · exact ⟨by simp, by simp⟩
theorem few_fits (n : Nat) (b : List Int) (h0 : 0 < n) (h1 : n ≤ 1048576) : fitsN n (few n b) = true := by
  unfold fitsN allN few
  rw [decide_eq_true (by omega), Bool.true_and, List.all_eq_true]
  intro x hx
  obtain ⟨y, _, rfl⟩ := List.mem_map.1 hx
  have := Int.emod_nonneg y (by omega : (n : Int) ≠ 0)
  have := Int.emod_lt_of_pos y (by omega : 0 < (n : Int))
  exact decide_eq_true (by omega)
theorem places_fit {n : Nat} {b : List Int} (h : fitsN n b = true) : placesU n b = (List.range n).map (plc b) ∧ placesE n b = 0 := by
  unfold placesU placesE
  rw [if_pos h, if_pos h, Int.toNat_natCast]
  exact ⟨rfl, rfl⟩
theorem hits_alike {n : Nat} {b : List Int} (h : fitsN n b = true) (a : List Int) : hitsOf (placesU n b) a = alike a b := by
  rw [(places_fit h).1]
  unfold hitsOf alike
  congr 1
  apply List.map_congr_left
  intro x _
  unfold hitAt
  simp only [List.length_map, List.length_range]
  split
  · rename_i hx
    obtain ⟨k, rfl⟩ := Int.eq_ofNat_of_zero_le hx.1
    have hk : k < n := by omega
    rw [Int.toNat_natCast, List.getElem?_map, List.getElem?_range hk]
    exact plc_count b k
  · rename_i hx
    symm
    rw [List.count_eq_zero]
    intro hm
    unfold fitsN allN at h
    simp only [Bool.and_eq_true, List.all_eq_true, decide_eq_true_eq] at h
    exact hx (h.2 x hm)
theorem alike_small (a b : List Int) (ha : a.length ≤ 80) (hb : b.length ≤ 80) : alike a b ≤ 6400 := by
  have := alike_le a b 80 hb a.length
  rw [List.take_length] at this
  have : a.length * 80 ≤ 80 * 80 := Nat.mul_le_mul_right _ ha
  omega

def SaysRel (m : Nat) (v : Value) : Prop := v = .bool true ∨ v = .bool false ∧ m ≤ 80
theorem says_in {m : Nat} {b : Bool} (h : m ≤ 80) : SaysRel m (.bool b) := by
  cases b
  · exact .inr ⟨rfl, h⟩
  · exact .inl rfl

set_option maxHeartbeats 1600000 in
theorem occurSays_core (hO : OfOK) (hM : MostOK) (n : Int) (B : Option Addr) (m d : Nat) (b : List Int) (w : World) (hn : (Lit.int .i64 n).wf = true) (hb : ArgI w B m d b) :
    Calls Try.prog 4 #[.int .i64 n, .slice B m d] w (Yes w) := by
  obtain ⟨hm, hd, hdm, hr, _, _⟩ := hb
  have HM := Lib.hid hm
  have HI : Hid (I64 n) := bounds_i64 hn
  have HD := Lib.hid hdm
  unfold maxLen at hdm
  clear hm hn
  go_enter Try.func4, Try.ntmps4
  go_wp2_with fail
  refine (awake_core hO hM _).mono ?_
  rintro e w1 ⟨rfl, hb1⟩
  have hr1 := hr.below hb1
  clear hr
  go_upto_region 3 with (fail)
  go_cut [21] (fun v wx => SaysRel m v ∧ wx = w1)
  case first =>
    by_cases hN : m ≤ 80
    · have hz : decide (80 < (m : Int)) = false := by simp; omega
      have hz' : decide (80 < m) = false := by simp; omega
      go_wp2_with fail
      all_goals (go_meet; exact ⟨says_in hN, rfl⟩)
    · have hz : decide (80 < (m : Int)) = true := by simp; omega
      have hz' : decide (80 < m) = true := by simp; omega
      go_wp2_with fail
      all_goals (go_meet; exact ⟨.inl rfl, rfl⟩)
  case rest =>
    obtain ⟨rfl | ⟨rfl, hN⟩, rfl⟩ := hcut
    · go_wp2_with fail
      go_ret
      exact Yes.of hb1
    · go_wp2_with fail
      refine (hO n B m d b _ HI.out HM.out (by omega) hd HD.out hr1).mono ?_
      rintro e w2 ⟨x, rfl, ⟨X, cX, xs, rfl, _, hX, rX, sX, _⟩, b2⟩
      have hr2 := hr1.below b2
      have hb2 := below_go hb1 b2
      clear b2 hb1 hr1
      go_wp2_with fail
      refine (places_any n B m d b _ HM.out (by omega) hr2).mono ?_
      rintro e w3 ⟨y, rfl, ⟨Y, cY, ys, rfl, _, _, rY, sY, _⟩, b3⟩
      have hb3 := below_go hb2 b3
      have rX3 := rX.below b3
      have sX3 := sX.below b3
      have hL : (placesU n b).length ≤ 9223372036854775807 := by unfold maxLen at hX; omega
      clear b3 hb2 hr2 rX sX
      generalize placesE n b = E at *
      generalize placesU n b = L at *
      go_wp2_with fail
      refine (sameLists_any X Y _ _ cX cY xs ys L L w3 rfl rfl hL rX3 sX3 rY sY).mono ?_
      rintro e w4 ⟨rfl, q, hq⟩
      have hb4 := below_drawn hq hb3
      clear hq rX3 sX3 rY sY hb3
      rw [show decide (L = L) = true by simp]
      go_wp2_with fail
      go_ret
      exact Yes.of hb4

set_option maxHeartbeats 1600000 in
theorem occurNext_core (hO : OfOK) (hM : MostOK) (hX : NextOK) (B : Option Addr) (m d : Nat) (b : List Int) (s f : Int) (w : World) (hb : ArgI w B m d b) (hs : (Lit.int .i64 s).wf = true) (hf : (Lit.int .i64 f).wf = true) :
    Calls Try.prog 5 #[.slice B m d, .int .i64 s, .int .i64 f] w (Yes w) := by
  obtain ⟨hm, hd, hdm, hr, _, _⟩ := hb
  have HM := Lib.hid hm
  have HS : Hid (I64 s) := bounds_i64 hs
  have HF : Hid (I64 f) := bounds_i64 hf
  unfold maxLen at hdm
  clear hm hs hf
  by_cases hN : m ≤ 80
  · go_enter Try.func5, Try.ntmps5
    go_wp2_with fail
    refine (awake_core hO hM _).mono ?_
    rintro e w1 ⟨rfl, hb1⟩
    have hr1 := hr.below hb1
    clear hr
    go_wp2_with fail
    refine (few_any B m d b 8 w1 HM.out (by omega) (by decide) (by decide) hr1).mono ?_
    rintro e w2 ⟨y, rfl, oy, b2⟩
    have hb2 := below_go hb1 b2
    have HY : Hid ((few 8 b).length = m) := by show _ = _; rw [few_length, HM.out]
    rw [HY.out] at oy
    obtain ⟨Y, cY, rfl, yc, _, rY, _⟩ := own_slice oy
    clear oy b2 hb1 hr1
    have hA := places_asc 8 (few 8 b) (by rw [HY.out]; omega)
    generalize few 8 b = ys at *
    go_wp2_with fail
    refine (places_any 8 Y m cY ys _ HY.out (by omega) rY).mono ?_
    rintro e w3 ⟨o, rfl, ⟨O, cO, os, rfl, oc, om, rO, sO, _⟩, b3⟩
    have hb3 := below_go hb2 b3
    clear b3 hb2 rY
    generalize placesE 8 ys = E at *
    generalize placesU 8 ys = L at *
    have HA := Lib.hid hA
    clear hA
    go_wp2_with fail
    refine (hX O _ cO os L s f w3 HS.out HF.out rfl oc om HA.out rO sO).mono ?_
    rintro e w4 ⟨rfl, b4⟩
    have hb4 := below_go hb3 b4
    have rO4 := rO.below b4
    have sO4 := sO.below b4
    clear b4 hb3 rO sO
    go_wp2_with fail
    refine (refNext_any O _ cO os L s f w4 rfl (fun l hl => Nat.le_trans (HA.out.2 l hl).1 (by decide)) rO4 sO4).mono ?_
    rintro e w5 ⟨rfl, rfl⟩
    obtain ⟨r, hR⟩ : ∃ r, nextU L s f = r := ⟨_, rfl⟩
    rw [hR]
    obtain ⟨r1, r2⟩ := r
    clear hR rO4 sO4
    cases r2
    all_goals (go_wp2_with fail; go_ret; exact Yes.of hb4)
  · go_enter Try.func5, Try.ntmps5
    go_wp2_with fail
    refine (awake_core hO hM _).mono ?_
    rintro e w1 ⟨rfl, hb1⟩
    go_wp2_with fail
    go_ret
    exact Yes.of hb1

set_option maxHeartbeats 1600000 in
theorem occurHits_core (hO : OfOK) (hM : MostOK) (hH : HitsOK) (A : Option Addr) (n c : Nat) (a : List Int) (B : Option Addr) (m d : Nat) (b : List Int) (w : World) (ha : ArgI w A n c a) (hb : ArgI w B m d b) :
    Calls Try.prog 6 #[.slice A n c, .slice B m d] w (Yes w) := by
  obtain ⟨hn, hc, hcm, hr, _, _⟩ := ha
  obtain ⟨hm, hd, hdm, hs, _, _⟩ := hb
  have HN := Lib.hid hn
  have HM := Lib.hid hm
  unfold maxLen at hcm hdm
  clear hn hm
  by_cases h1 : n ≤ 80
  · by_cases h2 : m ≤ 80
    · go_enter Try.func6, Try.ntmps6
      go_wp2_with fail
      refine (awake_core hO hM _).mono ?_
      rintro e w1 ⟨rfl, hb1⟩
      have hr1 := hr.below hb1
      have hs1 := hs.below hb1
      clear hr hs
      go_wp2_with fail
      refine (few_any A n c a 9 w1 HN.out (by omega) (by decide) (by decide) hr1).mono ?_
      rintro e w2 ⟨x, rfl, ox, b2⟩
      have hs2 := hs1.below b2
      have hb2 := below_go hb1 b2
      clear hr1 hs1 hb1 b2
      go_wp2_with fail
      refine (few_any B m d b 8 w2 HM.out (by omega) (by decide) (by decide) hs2).mono ?_
      rintro e w3 ⟨y, rfl, oy, b3⟩
      have hb3 := below_go hb2 b3
      have HX : Hid ((few 9 a).length = n) := by show _ = _; rw [few_length, HN.out]
      have HY : Hid ((few 8 b).length = m) := by show _ = _; rw [few_length, HM.out]
      rw [HX.out] at ox
      rw [HY.out] at oy
      obtain ⟨X, cX, rfl, xc, xm, rX, _⟩ := own_slice (own_below ox b3 (Nat.le_refl _))
      obtain ⟨Y, cY, rfl, yc, ym, rY, _⟩ := own_slice oy
      have HFit := Lib.hid (few_fits 8 b (by decide) (by decide))
      clear ox oy b3 hb2 hs2 HN HM hc hd hcm hdm
      have HFit' : Hid (fitsN 8 (few 8 b) = true) := HFit.out
      clear HFit
      generalize few 9 a = xs at *
      generalize few 8 b = ys at *
      go_wp2_with fail
      refine (hO 8 Y m cY ys w3 (i64_small (by decide)) HY.out (by omega) yc ym rY).mono ?_
      rintro e w4 ⟨o, rfl, ho, b4⟩
      have hb4 := below_go hb3 b4
      have rX4 := rX.below b4
      have rY4 := rY.below b4
      have hPE : placesE 8 ys = 0 := (places_fit (n := 8) HFit'.out).2
      have HHA := Lib.hid (hits_alike (n := 8) HFit'.out xs)
      have hAsc := places_asc 8 ys (by rw [HY.out]; omega)
      have hsm := alike_small xs ys (by rw [HX.out]; exact h1) (by rw [HY.out]; exact h2)
      rw [hPE]
      obtain ⟨O, cO, os, rfl, oc, om, rO, sO, _⟩ := ho
      have HHA' : Hid (hitsOf (placesU 8 ys) xs = alike xs ys) := HHA.out
      clear b4 hb3 rX rY hPE HHA
      generalize placesU 8 ys = L at *
      have HA := Lib.hid hAsc
      clear hAsc
      go_wp2_with fail
      refine (hH O X _ cO n cX os L xs w4 rfl oc om HA.out.1 (fun l hl => (HA.out.2 l hl).1) rO sO HX.out xc xm (by omega) rX4).mono ?_
      rintro e w5 ⟨rfl, b5⟩
      have hb5 := below_go hb4 b5
      have rX5 := rX4.below b5
      have rY5 := rY4.below b5
      rw [HHA'.out]
      clear b5 hb4 rX4 rY4 rO sO
      go_wp2_with fail
      refine (refAlike_any X Y n m cX cY xs ys w5 HX.out HY.out (by omega) (by omega) rX5 rY5).mono ?_
      rintro e w6 ⟨rfl, q, hq⟩
      have hb6 := below_drawn hq hb5
      clear hq hb5 rX5 rY5
      generalize alike xs ys = N at *
      go_wp2_with fail
      go_ret
      exact Yes.of hb6
    · go_enter Try.func6, Try.ntmps6
      go_wp2_with fail
      refine (awake_core hO hM _).mono ?_
      rintro e w1 ⟨rfl, hb1⟩
      go_wp2_with fail
      go_ret
      exact Yes.of hb1
  · go_enter Try.func6, Try.ntmps6
    go_wp2_with fail
    refine (awake_core hO hM _).mono ?_
    rintro e w1 ⟨rfl, hb1⟩
    go_wp2_with fail
    go_ret
    exact Yes.of hb1

end Go.Proofs.Ytaecahhobdgmjaa
