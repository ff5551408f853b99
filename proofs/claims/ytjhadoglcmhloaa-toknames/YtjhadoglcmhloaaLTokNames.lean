/-
  Proved: for every input tattinglaw1.TokNames returns true, and its arguments read afterwards as before. No condition.
-/
import Derived.Test.YtjhadoglcmhloaaAwake1
import Derived.Test.YtjhadoglcmhloaaArgs
namespace Go.Proofs.Ytjhadoglcmhloaa.tokNamesP
open Go.ChangeShapes Go.WideShapes Go.ChangeAt Go.RowKit
open Go.ChangeMaps (open_string shut_string)

/-- Some row of the call's own, of q elements, whatever they are. -/
def SomeRow (B : Nat) (w : World) (v : Value) : Prop := ∃ q us, q ≤ 300 ∧ w.ownsRow B 5 1 v q us

theorem own_set {w : World} {B q : Nat} {e : TypeId} {v : Value} {us : List Value} (h : w.ownsRow B e 1 v q us) (g j : Nat) (u : Value) : ∃ us', (w.setCell ⟨g, j, none⟩ u).ownsRow B e 1 v q us' := by
  rcases h.2 with ⟨rfl, rfl⟩ | ⟨g', cap, cur, rfl, hB, hh, h1, h2, h3, h4⟩
  · exact ⟨us, h.1, .inl ⟨rfl, rfl⟩⟩
  · by_cases hg : g' = g
    · subst hg
      refine ⟨((cur.setIfInBounds j u).toList.take (q * 1)), ?_, .inr ⟨g', cap, cur.setIfInBounds j u, rfl, hB, ?_, h1, h2, by simpa using h3, rfl⟩⟩
      · simp only [List.length_take, Array.length_toList, Array.size_setIfInBounds]
        omega
      · simp [World.setCell, Array.getElem?_modify, hh]
    · exact ⟨us, h.1, .inr ⟨g', cap, cur, rfl, hB, by rw [Below.heap_setCell _ _ _ _ hg]; exact hh, h1, h2, h3, h4⟩⟩

theorem own_other {w : World} {B q g n : Nat} {e e' : TypeId} {v : Value} {us : List Value} {cur : Array Value} (h : w.ownsRow B e 1 v q us) (hg : w.heap[g]? = some (.cells cur e' (0, 0))) (hne : e ≠ e') (u : Value) : (w.setCell ⟨g, n, none⟩ u).ownsRow B e 1 v q us := by
  refine ⟨h.1, ?_⟩
  rcases h.2 with h0 | ⟨g', cap, cur', hv, hB, hh, r⟩
  · exact .inl h0
  · refine .inr ⟨g', cap, cur', hv, hB, ?_, r⟩
    rw [Below.heap_setCell _ _ _ _ (by
      rintro rfl
      rw [hh] at hg
      simp only [Option.some.injEq, Obj.cells.injEq] at hg
      exact hne hg.2.1)]
    exact hh

/-- The state while what was told is spoiled. -/
def Spoilt (B n : Nat) (X : Value) (vs : List Value) (w wr : World) : Prop :=
  wr.ownsRow B 27 1 X n vs ∧ (∀ (i : Nat) v, vs[i]? = some v → SomeRow B wr v) ∧ Below B w wr

theorem Spoilt.store {B n : Nat} {X v : Value} {vs : List Value} {w wr : World} {i g q c j : Nat} (h : Spoilt B n X vs w wr) (hi : vs[i]? = some v) (hv : v = .slice (some ⟨g, 0, none⟩) q c) (u : Value) : Spoilt B n X vs w (wr.setCell ⟨g, j, none⟩ u) := by
  obtain ⟨h1, h2, h3⟩ := h
  obtain ⟨q', us, hq, ho⟩ := h2 i v hi
  subst hv
  have hh : ∃ cur, wr.heap[g]? = some (.cells cur 5 (0, 0)) ∧ B ≤ g := by
    rcases ho.2 with ⟨e, _⟩ | ⟨g', cap, cur, e, hB, hh, _⟩
    · cases e
    · simp only [Value.slice.injEq, Option.some.injEq, Addr.mk.injEq] at e
      obtain ⟨⟨rfl, _, _⟩, _, _⟩ := e
      exact ⟨cur, hh, hB⟩
  obtain ⟨cur, hh, hB⟩ := hh
  refine ⟨own_other h1 hh (by decide) u, fun i' v' hv' => ?_, h3.setCell hB u⟩
  obtain ⟨q2, us2, hq2, ho2⟩ := h2 i' v' hv'
  obtain ⟨us3, ho3⟩ := own_set ho2 g j u
  exact ⟨q2, us3, hq2, ho3⟩

/-- What the walk wants of the place that is spoiled. -/
theorem Spoilt.place {B n : Nat} {X v : Value} {vs : List Value} {w wr : World} {i : Nat} (h : Spoilt B n X vs w wr) (hi : vs[i]? = some v) :
    ∃ A q c, v = .slice A q c ∧ q ≤ 300 ∧ (0 < q → ∃ g, A = some ⟨g, 0, none⟩ ∧ ∀ j, j < q → ∃ u, wr.cell? ⟨g, j, none⟩ = some u ∧ wr.frozen? ⟨g, j, none⟩ = false) := by
  obtain ⟨q, us, hq, ho⟩ := h.2.1 i v hi
  rcases ho.2 with ⟨e, e0⟩ | ⟨g, cap, cur, e, hB, hh, h1, h2, h3, _⟩
  · exact ⟨none, 0, 0, e, by omega, fun h => absurd h (by omega)⟩
  · refine ⟨_, q, cap, e, hq, fun _ => ⟨g, rfl, fun j hj => ?_⟩⟩
    have hj' : j < cur.size := by omega
    exact ⟨cur[j], by rw [cell_of_row wr g j cur _ _ hh]; exact Array.getElem?_eq_getElem hj', by simp [World.frozen?, hh]⟩

def OutRel (B n : Nat) (X : Value) (vs : List Value) (w : World) (i : Value) (wr : World) : Prop := ∃ k : Nat, k ≤ n ∧ i = .int .i64 k ∧ Spoilt B n X vs w wr
def InRel (B n q : Nat) (X : Value) (vs : List Value) (w : World) (j : Value) (wr : World) : Prop := ∃ k : Nat, k ≤ q ∧ j = .int .i64 k ∧ Spoilt B n X vs w wr

theorem spoilt_start {l : List UInt8} {w1 w2 : World} {X : Value} {vs : List Value} (hsm : l.length ≤ 300) (hown : w2.ownsRow w1.heap.size 27 1 X (cut 1 l).length vs) (hbs : OwnBs w1.heap.size w2 vs (cut 1 l)) (hb : Below w1.heap.size w1 w2) :
    Spoilt w1.heap.size (cut 1 l).length X vs w1 w2 := by
  refine ⟨hown, fun i v hv => ?_, hb⟩
  have hi : i < (cut 1 l).length := by rw [← hbs.1]; exact (List.getElem?_eq_some_iff.1 hv).1
  have ho := hbs.2 i v _ hv (List.getElem?_eq_getElem hi)
  refine ⟨_, _, ?_, ho⟩
  have h1 := List.sublist_flatten_of_mem (List.getElem_mem hi)
  rw [cut_flatten] at h1
  have := h1.length_le
  omega

theorem modeOf_nameOf (m : Int) : modeOf (nameOf m).toList = (if m == 0 then 0 else if m == 1 then 1 else 0, m == 0 || m == 1) := by
  unfold nameOf
  by_cases h0 : m = 0
  · subst h0
    rw [ByteArray.toList_eq]
    decide
  · by_cases h1 : m = 1
    · subst h1
      rw [ByteArray.toList_eq]
      decide
    · have hb : (m == 0 || m == 1) = false := by simp [h0, h1]
      rw [hb]
      simp [h0, h1]
      decide

set_option maxHeartbeats 1600000 in
theorem names_walk_zero (s : ByteArray) (A : Option Addr) (c : Nat) (l : List UInt8) (w : World) (hs : s.size ≤ 60) (hc : l.length ≤ c) (hr : Row w A (bv l)) (hsm : l.length ≤ 100) :
    Calls Try.prog 8 #[.int .i64 0, .string s, .slice A l.length c] w (Yes w) := by
  have hmb := modeOf_nameOf 0
  have hmb' : modeOf (nameOf 0).toList = (0, true) := hmb
  clear hmb
  have hmb := hmb'
  clear hmb'
  have HM := Lib.hid hmb
  clear hmb
  go_enter Try.func8, Try.ntmps8
  go_wp2_with fail
  refine (awake_yes _).mono ?_
  rintro e w1 ⟨rfl, hb1⟩
  have hr1 := hr.below hb1
  go_wp2_with fail
  refine (mode_any _ _).mono ?_
  rintro e w' ⟨rfl, rfl⟩
  go_wp2_with fail
  refine (refMode_any _ _).mono ?_
  rintro e w' ⟨rfl, rfl⟩
  go_wp2_with fail
  refine (name_any 0 _).mono ?_
  rintro e w' ⟨rfl, rfl⟩
  go_wp2_with fail
  refine (mode_any _ _).mono ?_
  rintro e w' ⟨rfl, rfl⟩
  rw [HM.out]
  have hself : ∀ x : Int, (x != x) = false := fun x => by simp
  have hself2 : ∀ x : Bool, (x != x) = false := fun x => by simp
  have hself3 : ∀ x : List UInt8, (x == x) = true := fun x => by simp
  go_wp2_with fail
  refine (name_any 0 _).mono ?_
  rintro e w' ⟨rfl, rfl⟩
  go_wp2_with fail
  refine (refName_any 0 _).mono ?_
  rintro e w' ⟨rfl, rfl⟩
  have cvb := conv_any (P := Try.prog) rfl hr1 27 9 5 c Try.underlying27 Try.underlying5 Try.underlying9
  go_wp2_with fail
  refine (cut_yes 1 A _ c l _ rfl hc (by omega) hr1 (by decide)).mono ?_
  rintro e w2 ⟨v, vs, rfl, hown, hbs, hb2⟩
  have hsp := spoilt_start (by omega) hown hbs hb2
  obtain ⟨A1, c1, rfl, _, _, _, _⟩ := own_slice hown
  have hcl := cut_len 1 l
  clear hown hbs cvb
  go_wp2_with fail
  go_loopw [16] (fun i wr => OutRel w1.heap.size (cut 1 l).length (.slice A1 (cut 1 l).length c1) vs w1 i wr) (fun i _ => (cut 1 l).length - (intOf i).toNat)
  case atStart => exact ⟨0, Nat.zero_le _, rfl, hsp⟩
  case round =>
    clear hsp hb2
    obtain ⟨k, hk, rfl, hsp⟩ := hrel
    by_cases hlt : k < (cut 1 l).length
    · have hvl : vs.length = (cut 1 l).length := by have := hsp.1.1; omega
      obtain ⟨v, hv⟩ : ∃ v, vs[k]? = some v := ⟨_, List.getElem?_eq_getElem (by omega)⟩
      have hrow := Row.of_own hsp.1
      obtain ⟨g, o, rfl, hcs⟩ := hrow (by intro e; rw [e] at hv; simp at hv)
      obtain ⟨A2, q, c2, rfl, hq, hpl⟩ := hsp.place hv
      have hcell := hcs k _ hv
      have HV := Lib.hid hv
      clear hrow hcs hv hvl hpl
      go_wp2_with fail
      go_loopw [17] (fun j wr => InRel w1.heap.size (cut 1 l).length q (.slice (some ⟨g, o, none⟩) (cut 1 l).length c1) vs w1 j wr) (fun j _ => q - (intOf j).toNat)
      case atStart => exact ⟨0, Nat.zero_le _, rfl, hsp⟩
      case round =>
        clear hsp hcell
        obtain ⟨j, hj, rfl, hsp⟩ := hrel
        obtain ⟨g2, o2, e2, hcs⟩ := Row.of_own hsp.1 (by intro e; have h := HV.out; rw [e] at h; simp at h)
        cases e2
        have hcell := hcs k _ HV.out
        clear hcs
        by_cases hjq : j < q
        · obtain ⟨A3, q3, c3, e3, _, hpl⟩ := hsp.place HV.out
          cases e3
          obtain ⟨g3, rfl, hpl2⟩ := hpl (by omega)
          obtain ⟨u, hu, hf⟩ := hpl2 j hjq
          have hsp' := hsp.store HV.out rfl (.int .u8 51) (j := j)
          clear hpl hpl2 hsp
          go_wp2_with fail
          go_roundw
          case rel => exact ⟨j + 1, by omega, by go_num, hsp'⟩
          case measure => simp [intOf]; omega
        · go_wp2_with fail
          go_roundw
          case rel => exact ⟨k + 1, by omega, by go_num, hsp⟩
          case measure => simp [intOf]; omega
    · have hb2 := hsp.2.2
      clear hsp
      have hr2 := hr1.below hb2
      go_wp2_with fail
      refine (cut_yes 1 A _ c l _ rfl hc (by omega) hr2 (by decide)).mono ?_
      rintro e w3 ⟨v, vs3, rfl, hown, hbs, hb3⟩
      obtain ⟨A3, c3, rfl, _, _, hq3, _⟩ := own_slice hown
      have hfl := Lib.hid (show joined (cut 1 l) = l from cut_flatten 1 l)
      have cvb := conv_any (P := Try.prog) rfl (hr2.below hb3) 27 9 5 c Try.underlying27 Try.underlying5 Try.underlying9
      go_wp2_with fail
      refine (join_any A3 _ c3 vs3 (cut 1 l) _ rfl (by omega) hq3 hbs.bss (by rw [hfl.out]; omega)).mono ?_
      rintro e w4 ⟨u, rfl, hu, hb4⟩
      rw [hfl.out] at hu
      obtain ⟨A4, c4, rfl, _, _, hq4, _⟩ := hu.form
      have cv4 := conv_any (P := Try.prog) rfl hq4 27 9 5 c4 Try.underlying27 Try.underlying5 Try.underlying9
      go_wp2_with fail
      go_ret
      have s1 := hb1.size
      have s2 := hb2.size
      have s3 := hb3.size
      exact ⟨by first | rfl | simp, ((hb1.trans (hb2.mono s1)).trans (hb3.mono (Nat.le_trans s1 s2))).trans (hb4.mono (Nat.le_trans s1 (Nat.le_trans s2 s3)))⟩

set_option maxHeartbeats 1600000 in
theorem names_walk_one (s : ByteArray) (A : Option Addr) (c : Nat) (l : List UInt8) (w : World) (hs : s.size ≤ 60) (hc : l.length ≤ c) (hr : Row w A (bv l)) (hsm : l.length ≤ 100) :
    Calls Try.prog 8 #[.int .i64 1, .string s, .slice A l.length c] w (Yes w) := by
  have hmb := modeOf_nameOf 1
  have hmb' : modeOf (nameOf 1).toList = (1, true) := hmb
  clear hmb
  have hmb := hmb'
  clear hmb'
  have HM := Lib.hid hmb
  clear hmb
  go_enter Try.func8, Try.ntmps8
  go_wp2_with fail
  refine (awake_yes _).mono ?_
  rintro e w1 ⟨rfl, hb1⟩
  have hr1 := hr.below hb1
  go_wp2_with fail
  refine (mode_any _ _).mono ?_
  rintro e w' ⟨rfl, rfl⟩
  go_wp2_with fail
  refine (refMode_any _ _).mono ?_
  rintro e w' ⟨rfl, rfl⟩
  go_wp2_with fail
  refine (name_any 1 _).mono ?_
  rintro e w' ⟨rfl, rfl⟩
  go_wp2_with fail
  refine (mode_any _ _).mono ?_
  rintro e w' ⟨rfl, rfl⟩
  rw [HM.out]
  have hself : ∀ x : Int, (x != x) = false := fun x => by simp
  have hself2 : ∀ x : Bool, (x != x) = false := fun x => by simp
  have hself3 : ∀ x : List UInt8, (x == x) = true := fun x => by simp
  go_wp2_with fail
  refine (name_any 1 _).mono ?_
  rintro e w' ⟨rfl, rfl⟩
  go_wp2_with fail
  refine (refName_any 1 _).mono ?_
  rintro e w' ⟨rfl, rfl⟩
  have cvb := conv_any (P := Try.prog) rfl hr1 27 9 5 c Try.underlying27 Try.underlying5 Try.underlying9
  go_wp2_with fail
  refine (cut_yes 1 A _ c l _ rfl hc (by omega) hr1 (by decide)).mono ?_
  rintro e w2 ⟨v, vs, rfl, hown, hbs, hb2⟩
  have hsp := spoilt_start (by omega) hown hbs hb2
  obtain ⟨A1, c1, rfl, _, _, _, _⟩ := own_slice hown
  have hcl := cut_len 1 l
  clear hown hbs cvb
  go_wp2_with fail
  go_loopw [16] (fun i wr => OutRel w1.heap.size (cut 1 l).length (.slice A1 (cut 1 l).length c1) vs w1 i wr) (fun i _ => (cut 1 l).length - (intOf i).toNat)
  case atStart => exact ⟨0, Nat.zero_le _, rfl, hsp⟩
  case round =>
    clear hsp hb2
    obtain ⟨k, hk, rfl, hsp⟩ := hrel
    by_cases hlt : k < (cut 1 l).length
    · have hvl : vs.length = (cut 1 l).length := by have := hsp.1.1; omega
      obtain ⟨v, hv⟩ : ∃ v, vs[k]? = some v := ⟨_, List.getElem?_eq_getElem (by omega)⟩
      have hrow := Row.of_own hsp.1
      obtain ⟨g, o, rfl, hcs⟩ := hrow (by intro e; rw [e] at hv; simp at hv)
      obtain ⟨A2, q, c2, rfl, hq, hpl⟩ := hsp.place hv
      have hcell := hcs k _ hv
      have HV := Lib.hid hv
      clear hrow hcs hv hvl hpl
      go_wp2_with fail
      go_loopw [17] (fun j wr => InRel w1.heap.size (cut 1 l).length q (.slice (some ⟨g, o, none⟩) (cut 1 l).length c1) vs w1 j wr) (fun j _ => q - (intOf j).toNat)
      case atStart => exact ⟨0, Nat.zero_le _, rfl, hsp⟩
      case round =>
        clear hsp hcell
        obtain ⟨j, hj, rfl, hsp⟩ := hrel
        obtain ⟨g2, o2, e2, hcs⟩ := Row.of_own hsp.1 (by intro e; have h := HV.out; rw [e] at h; simp at h)
        cases e2
        have hcell := hcs k _ HV.out
        clear hcs
        by_cases hjq : j < q
        · obtain ⟨A3, q3, c3, e3, _, hpl⟩ := hsp.place HV.out
          cases e3
          obtain ⟨g3, rfl, hpl2⟩ := hpl (by omega)
          obtain ⟨u, hu, hf⟩ := hpl2 j hjq
          have hsp' := hsp.store HV.out rfl (.int .u8 51) (j := j)
          clear hpl hpl2 hsp
          go_wp2_with fail
          go_roundw
          case rel => exact ⟨j + 1, by omega, by go_num, hsp'⟩
          case measure => simp [intOf]; omega
        · go_wp2_with fail
          go_roundw
          case rel => exact ⟨k + 1, by omega, by go_num, hsp⟩
          case measure => simp [intOf]; omega
    · have hb2 := hsp.2.2
      clear hsp
      have hr2 := hr1.below hb2
      go_wp2_with fail
      refine (cut_yes 1 A _ c l _ rfl hc (by omega) hr2 (by decide)).mono ?_
      rintro e w3 ⟨v, vs3, rfl, hown, hbs, hb3⟩
      obtain ⟨A3, c3, rfl, _, _, hq3, _⟩ := own_slice hown
      have hfl := Lib.hid (show joined (cut 1 l) = l from cut_flatten 1 l)
      have cvb := conv_any (P := Try.prog) rfl (hr2.below hb3) 27 9 5 c Try.underlying27 Try.underlying5 Try.underlying9
      go_wp2_with fail
      refine (join_any A3 _ c3 vs3 (cut 1 l) _ rfl (by omega) hq3 hbs.bss (by rw [hfl.out]; omega)).mono ?_
      rintro e w4 ⟨u, rfl, hu, hb4⟩
      rw [hfl.out] at hu
      obtain ⟨A4, c4, rfl, _, _, hq4, _⟩ := hu.form
      have cv4 := conv_any (P := Try.prog) rfl hq4 27 9 5 c4 Try.underlying27 Try.underlying5 Try.underlying9
      go_wp2_with fail
      go_ret
      have s1 := hb1.size
      have s2 := hb2.size
      have s3 := hb3.size
      exact ⟨by first | rfl | simp, ((hb1.trans (hb2.mono s1)).trans (hb3.mono (Nat.le_trans s1 s2))).trans (hb4.mono (Nat.le_trans s1 (Nat.le_trans s2 s3)))⟩

set_option maxHeartbeats 1600000 in
theorem names_walk_no (m : Int) (s : ByteArray) (A : Option Addr) (c : Nat) (l : List UInt8) (w : World) (hs : s.size ≤ 60) (hc : l.length ≤ c) (hr : Row w A (bv l)) (hsm : l.length ≤ 100) (h0 : (m == 0) = false) (h1 : (m == 1) = false) :
    Calls Try.prog 8 #[.int .i64 m, .string s, .slice A l.length c] w (Yes w) := by
  have hmb := modeOf_nameOf m
  rw [h0, h1] at hmb
  simp only [Bool.or_self, Bool.false_eq_true, if_false] at hmb
  have HM := Lib.hid hmb
  clear hmb
  go_enter Try.func8, Try.ntmps8
  go_wp2_with fail
  refine (awake_yes _).mono ?_
  rintro e w1 ⟨rfl, hb1⟩
  have hr1 := hr.below hb1
  go_wp2_with fail
  refine (mode_any _ _).mono ?_
  rintro e w' ⟨rfl, rfl⟩
  go_wp2_with fail
  refine (refMode_any _ _).mono ?_
  rintro e w' ⟨rfl, rfl⟩
  go_wp2_with fail
  refine (name_any m _).mono ?_
  rintro e w' ⟨rfl, rfl⟩
  go_wp2_with fail
  refine (mode_any _ _).mono ?_
  rintro e w' ⟨rfl, rfl⟩
  rw [HM.out]
  have hself : ∀ x : Int, (x != x) = false := fun x => by simp
  have hself2 : ∀ x : Bool, (x != x) = false := fun x => by simp
  have hself3 : ∀ x : List UInt8, (x == x) = true := fun x => by simp
  go_wp2_with fail
  refine (name_any m _).mono ?_
  rintro e w' ⟨rfl, rfl⟩
  go_wp2_with fail
  refine (refName_any m _).mono ?_
  rintro e w' ⟨rfl, rfl⟩
  have cvb := conv_any (P := Try.prog) rfl hr1 27 9 5 c Try.underlying27 Try.underlying5 Try.underlying9
  go_wp2_with fail
  refine (cut_yes 1 A _ c l _ rfl hc (by omega) hr1 (by decide)).mono ?_
  rintro e w2 ⟨v, vs, rfl, hown, hbs, hb2⟩
  have hsp := spoilt_start (by omega) hown hbs hb2
  obtain ⟨A1, c1, rfl, _, _, _, _⟩ := own_slice hown
  have hcl := cut_len 1 l
  clear hown hbs cvb
  go_wp2_with fail
  go_loopw [16] (fun i wr => OutRel w1.heap.size (cut 1 l).length (.slice A1 (cut 1 l).length c1) vs w1 i wr) (fun i _ => (cut 1 l).length - (intOf i).toNat)
  case atStart => exact ⟨0, Nat.zero_le _, rfl, hsp⟩
  case round =>
    clear hsp hb2
    obtain ⟨k, hk, rfl, hsp⟩ := hrel
    by_cases hlt : k < (cut 1 l).length
    · have hvl : vs.length = (cut 1 l).length := by have := hsp.1.1; omega
      obtain ⟨v, hv⟩ : ∃ v, vs[k]? = some v := ⟨_, List.getElem?_eq_getElem (by omega)⟩
      have hrow := Row.of_own hsp.1
      obtain ⟨g, o, rfl, hcs⟩ := hrow (by intro e; rw [e] at hv; simp at hv)
      obtain ⟨A2, q, c2, rfl, hq, hpl⟩ := hsp.place hv
      have hcell := hcs k _ hv
      have HV := Lib.hid hv
      clear hrow hcs hv hvl hpl
      go_wp2_with fail
      go_loopw [17] (fun j wr => InRel w1.heap.size (cut 1 l).length q (.slice (some ⟨g, o, none⟩) (cut 1 l).length c1) vs w1 j wr) (fun j _ => q - (intOf j).toNat)
      case atStart => exact ⟨0, Nat.zero_le _, rfl, hsp⟩
      case round =>
        clear hsp hcell
        obtain ⟨j, hj, rfl, hsp⟩ := hrel
        obtain ⟨g2, o2, e2, hcs⟩ := Row.of_own hsp.1 (by intro e; have h := HV.out; rw [e] at h; simp at h)
        cases e2
        have hcell := hcs k _ HV.out
        clear hcs
        by_cases hjq : j < q
        · obtain ⟨A3, q3, c3, e3, _, hpl⟩ := hsp.place HV.out
          cases e3
          obtain ⟨g3, rfl, hpl2⟩ := hpl (by omega)
          obtain ⟨u, hu, hf⟩ := hpl2 j hjq
          have hsp' := hsp.store HV.out rfl (.int .u8 51) (j := j)
          clear hpl hpl2 hsp
          go_wp2_with fail
          go_roundw
          case rel => exact ⟨j + 1, by omega, by go_num, hsp'⟩
          case measure => simp [intOf]; omega
        · go_wp2_with fail
          go_roundw
          case rel => exact ⟨k + 1, by omega, by go_num, hsp⟩
          case measure => simp [intOf]; omega
    · have hb2 := hsp.2.2
      clear hsp
      have hr2 := hr1.below hb2
      go_wp2_with fail
      refine (cut_yes 1 A _ c l _ rfl hc (by omega) hr2 (by decide)).mono ?_
      rintro e w3 ⟨v, vs3, rfl, hown, hbs, hb3⟩
      obtain ⟨A3, c3, rfl, _, _, hq3, _⟩ := own_slice hown
      have hfl := Lib.hid (show joined (cut 1 l) = l from cut_flatten 1 l)
      have cvb := conv_any (P := Try.prog) rfl (hr2.below hb3) 27 9 5 c Try.underlying27 Try.underlying5 Try.underlying9
      go_wp2_with fail
      refine (join_any A3 _ c3 vs3 (cut 1 l) _ rfl (by omega) hq3 hbs.bss (by rw [hfl.out]; omega)).mono ?_
      rintro e w4 ⟨u, rfl, hu, hb4⟩
      rw [hfl.out] at hu
      obtain ⟨A4, c4, rfl, _, _, hq4, _⟩ := hu.form
      have cv4 := conv_any (P := Try.prog) rfl hq4 27 9 5 c4 Try.underlying27 Try.underlying5 Try.underlying9
      go_wp2_with fail
      go_ret
      have s1 := hb1.size
      have s2 := hb2.size
      have s3 := hb3.size
      exact ⟨by first | rfl | simp, ((hb1.trans (hb2.mono s1)).trans (hb3.mono (Nat.le_trans s1 s2))).trans (hb4.mono (Nat.le_trans s1 (Nat.le_trans s2 s3)))⟩

theorem tokNames_walk (m : Int) (s : ByteArray) (A : Option Addr) (n c : Nat) (l : List UInt8) (w : World) (_ : (Lit.int .i64 m).wf = true) (hs : s.size ≤ maxLen) (hb : ArgB w A n c l) :
    Calls Try.prog 8 #[.int .i64 m, .string s, .slice A n c] w (Yes w) := by
  unfold maxLen at hs
  obtain ⟨hn, hc, hcm, hr, hnil⟩ := hb
  have hm : n ≤ 9223372036854775807 := by unfold maxLen at hcm; omega
  subst hn
  by_cases hbig : 60 < s.size
  · clear hnil hr
    go_enter Try.func8, Try.ntmps8
    go_wp2_with fail
    refine (awake_yes _).mono ?_
    rintro e w1 ⟨rfl, hb1⟩
    go_wp2_with fail
    go_ret
    exact ⟨rfl, hb1⟩
  by_cases hbig2 : 100 < l.length
  · clear hnil hr
    go_enter Try.func8, Try.ntmps8
    go_wp2_with fail
    refine (awake_yes _).mono ?_
    rintro e w1 ⟨rfl, hb1⟩
    go_wp2_with fail
    go_ret
    exact ⟨rfl, hb1⟩
  by_cases h0 : m = 0
  · subst h0
    exact names_walk_zero s A c l w (by omega) hc hr (by omega)
  by_cases h1 : m = 1
  · subst h1
    exact names_walk_one s A c l w (by omega) hc hr (by omega)
  exact names_walk_no m s A c l w (by omega) hc hr (by omega) (by simpa using h0) (by simpa using h1)

/-! ### The row's step -/
theorem own : ownKnob Try.prog.godebug = none := by kernel_rfl
theorem laidOut : laidOutB Try.prog = true := by kernel_rfl

theorem contract (H : Type) (enc : TypeId × Value → H) (W : World) (base : Nat) (args : Array Value) (ds gs : List (DataW H)) (before : List MemPlace)
    (hval : ∀ (j : Nat) t v, Try.f8.params[j]? = some t → args[j]? = some v → Value.okWide Try.prog W .any base t v)
    (hW : DataW.Whole enc Try.prog Try.f8.params.toList Rows.tokNamesSpec.vars false W args.toList ds gs before) :
    Calls Try.prog 8 args W fun e W' => ∃ v, e = .returned v ∧ Rows.tokNamesSpec.post enc Try.prog Try.f8 false true false false W args v W' := by
  have hW' := hW
  obtain ⟨p, q, hA0, hV, rfl, hfz, hnd⟩ := hW
  have hA : DataW.TrodAll enc Try.prog W 0 (fun _ => true) true Try.f8.params.toList args.toList ds p := hA0
  rw [Try.params8] at hA hval
  obtain ⟨v0, vs0, d0, ds0, p0, q0, hargs, rfl, rfl, h0, r0⟩ := trodAll_cons hA
  obtain ⟨v1, vs1, d1, ds1, p1, q1, rfl, rfl, rfl, h1, r1⟩ := trodAll_cons r0
  obtain ⟨v2, vs2, d2, ds2, p2, q2, rfl, rfl, rfl, h2, r2⟩ := trodAll_cons r1
  obtain ⟨rfl, rfl, rfl⟩ := trodAll_nil r2
  obtain rfl : args = #[v0, v1, v2] := by cases args; simp_all
  obtain ⟨rfl, rfl⟩ := trodVars_none hV
  have k0 := h0
  have lt0 : ∀ x ∈ p0, x.block < W.heap.size := by obtain ⟨m, hm⟩ := k0; exact DataW.trod_lt m _ _ _ hm
  obtain ⟨a0, e0, _, _, w0⟩ := open_int Try.underlying3 (hval 0 3 v0 rfl rfl) h0
  subst e0
  have k1 := h1
  have lt1 : ∀ x ∈ p1, x.block < W.heap.size := by obtain ⟨m, hm⟩ := k1; exact DataW.trod_lt m _ _ _ hm
  obtain ⟨a1, e1, _, _, w1⟩ := open_string Try.underlying9 (hval 1 9 v1 rfl rfl) h1
  subst e1
  have k2 := h2
  have lt2 : ∀ x ∈ p2, x.block < W.heap.size := by obtain ⟨m, hm⟩ := k2; exact DataW.trod_lt m _ _ _ hm
  obtain ⟨A2, n2, c2, e2⟩ := okWide_slice Try.underlying27 (hval 2 27 v2 rfl rfl)
  subst e2
  obtain ⟨l2, w2⟩ := open_argB Try.underlying27 Try.underlying5 (by kernel_rfl) h2
  clear hA0
  refine (tokNames_walk a0 a1 A2 n2 c2 l2 W w0 w1 w2).mono fun e W' ⟨he, bel⟩ => ?_
  subst he
  exact ⟨_, rfl, _, _, _, [], _, [], hW', trodAll_mk1 (shut_bool Try.underlying4 _), (trodAll_cons_mk (Below.trod laidOut (by kernel_rfl) (of_decide_eq_true (by kernel_rfl)) k0 bel lt0) (trodAll_cons_mk (Below.trod laidOut (by kernel_rfl) (of_decide_eq_true (by kernel_rfl)) k1 bel lt1) (trodAll_cons_mk (Below.trod laidOut (by kernel_rfl) (of_decide_eq_true (by kernel_rfl)) k2 bel lt2) trodAll_mk0))), rfl, bel.frame _, fun h => by cases h⟩

set_option maxRecDepth 100000 in
theorem lifted (os : Os) (started : os.Started) (H : Type) (enc : TypeId × Value → H) :
    ReturnsInHanded {} Try.checked os 8 .any (Rows.tokNamesSpec.pre6 enc Try.prog Try.f8 Rows.tokNamesRow.domain false) (Rows.tokNamesSpec.post enc Try.prog Try.f8 false true false false) := by
  refine returnsInHanded_of_change (C := Try.checked) own started (by kernel_rfl) Try.func8
    (ChangeSpec.witness6 (enc := enc) (C := Try.checked) false ⟨#[], #[.int .i64 0, .string .empty, .slice none 0 0], []⟩ 8 (by kernel_rfl) (by kernel_rfl) (by kernel_rfl) (by kernel_rfl)) ?_
  intro W base args ds gs before hval hW _ _
  exact contract H enc W base args ds gs before hval hW

/-- The statement. -/
theorem proved : Rows.TokNamesSaid :=
  OpenClaim.holds_of_wide 8 Try.f8 rfl rfl rfl rfl rfl rfl rfl ⟨rfl, rfl, rfl, rfl, rfl⟩ rfl rfl rfl rfl rfl (by kernel_rfl) Try.func8 (by kernel_rfl)
    (of_decide_eq_true (by kernel_rfl)) (by unfold Func.isWrapper; first | (rw [if_pos (by decide +kernel)]; kernel_rfl) | (rw [if_neg (by decide +kernel)]; exact ⟨rfl, rfl⟩))
    (fun os started H enc _ => lifted os started H enc)

end Go.Proofs.Ytjhadoglcmhloaa.tokNamesP
