/-
  Words and contracts that the proof leans on.
-/
import Derived.Test.YtejpbjglfjhjkaaM2
import Derived.Deep.QuietTactic
import Derived.BigQuiet
namespace Go.Proofs.Ytejpbjglfjhjkaa
open Go.RowKit

/-- Numbers as values. -/
def iv (l : List Int) : List Value := l.map (Value.int .i64)
theorem iv_length (l : List Int) : (iv l).length = l.length := by simp [iv]
theorem iv_append (l r : List Int) : iv (l ++ r) = iv l ++ iv r := by simp [iv]
theorem Row.int {w : World} {A : Option Addr} {l : List Int} (h : Row w A (iv l)) {k : Nat} (hk : k < l.length) :
    ∃ g o, A = some ⟨g, o, none⟩ ∧ w.cell? ⟨g, o + k, none⟩ = some (.int .i64 l[k]) := by
  obtain ⟨g, o, e, hc⟩ := h.at_ k (by simpa [iv] using hk)
  exact ⟨g, o, e, by rw [hc]; simp [iv]⟩

end Go.Proofs.Ytejpbjglfjhjkaa

namespace Go.Proofs.Ytejpbjglfjhjkaa
open Go.RowKit

abbrev Pr := Int × Int

/-- Pairs as values. -/
def pv (l : List Pr) : List Value := l.flatMap fun p => [.int .i64 p.1, .int .i64 p.2]
theorem pv_cons (p : Pr) (l : List Pr) : pv (p :: l) = .int .i64 p.1 :: .int .i64 p.2 :: pv l := rfl
theorem pv_one (p : Pr) : pv [p] = [.int .i64 p.1, .int .i64 p.2] := rfl
theorem pv_append (l r : List Pr) : pv (l ++ r) = pv l ++ pv r := by simp [pv]
theorem pv_length : ∀ l : List Pr, (pv l).length = l.length * 2
  | [] => rfl
  | p :: l => by rw [pv_cons]; simp [pv_length l]; omega
theorem pv_cells (l : List Pr) : ∀ u ∈ pv l, u.oneCell' = true := by
  intro u hu
  simp only [pv, List.mem_flatMap] at hu
  obtain ⟨p, _, hp⟩ := hu
  simp at hp
  rcases hp with rfl | rfl <;> rfl
theorem pv_get : ∀ (l : List Pr) (k : Nat) (hk : k < l.length), (pv l)[k * 2]? = some (.int .i64 l[k].1) ∧ (pv l)[k * 2 + 1]? = some (.int .i64 l[k].2)
  | [], k, hk => by simp at hk
  | p :: l, 0, hk => by simp [pv_cons]
  | p :: l, k + 1, hk => by
    have := pv_get l k (by simpa using hk)
    rw [pv_cons, show (k + 1) * 2 = k * 2 + 1 + 1 by omega]
    simpa using this

theorem Row.pair {w : World} {A : Option Addr} {l : List Pr} (h : Row w A (pv l)) {k : Nat} (hk : k < l.length) :
    ∃ g o, A = some ⟨g, o, none⟩ ∧ w.cell? ⟨g, o + k * 2, none⟩ = some (.int .i64 l[k].1) ∧ w.cell? ⟨g, o + k * 2 + 1, none⟩ = some (.int .i64 l[k].2) := by
  obtain ⟨g, o, e, hc⟩ := h (by intro e; have := pv_length l; rw [e] at this; simp at this; omega)
  obtain ⟨h1, h2⟩ := pv_get l k hk
  exact ⟨g, o, e, hc _ _ h1, by rw [Nat.add_assoc]; exact hc _ _ h2⟩

/-! Rows of the call's own, of whatever cells an element has. -/
theorem own_belowS {w w' : World} {B B' n sz : Nat} {e : TypeId} {v : Value} {us : List Value} (h : w.ownsRow B e sz v n us) (hb : Below w.heap.size w w') (hB : B' ≤ B) : w'.ownsRow B' e sz v n us := by
  refine ⟨h.1, ?_⟩
  rcases h.2 with h0 | ⟨g, cap, cur, hv, hg, hh, r⟩
  · exact .inl h0
  · exact .inr ⟨g, cap, cur, hv, by omega, by rw [hb.block g (Array.getElem?_eq_some_iff.1 hh).1]; exact hh, r⟩
theorem own_lowerS {w : World} {B B' n sz : Nat} {e : TypeId} {v : Value} {us : List Value} (h : w.ownsRow B e sz v n us) (hB : B' ≤ B) : w.ownsRow B' e sz v n us := own_belowS h (Below.refl _ _) hB
theorem own_rowS {w : World} {base sz : Nat} {e : TypeId} {A : Option Addr} {n c : Nat} {us : List Value} (h : w.ownsRow base e sz (.slice A n c) n us) : Row w A us := fun hne => by
  rcases h.2 with ⟨_, h0⟩ | ⟨g, cap, cur, hv, _⟩
  · exact absurd (List.eq_nil_of_length_eq_zero (by rw [h.1, h0, Nat.zero_mul])) hne
  · have hA : A = some ⟨g, 0, none⟩ := by injection hv
    subst hA
    refine ⟨g, 0, rfl, fun i u hu => ?_⟩
    have := h.cells (g := g) rfl i u hu
    simpa [Addr.add_lit] using this
theorem own_sliceS {w : World} {B n sz : Nat} {e : TypeId} {v : Value} {vs : List Value} (h : w.ownsRow B e sz v n vs) : ∃ A c, v = .slice A n c ∧ n ≤ c ∧ c ≤ maxLen ∧ Row w A vs ∧ (A = none → c = 0) := by
  rcases h.2 with ⟨e, h0⟩ | ⟨g, cap, cur, hv, _, _, h1, h2, _⟩
  · subst h0
    subst e
    have hl : vs = [] := List.eq_nil_of_length_eq_zero (by simpa using h.1)
    subst hl
    exact ⟨none, 0, rfl, Nat.le_refl _, Nat.zero_le _, Row.nil _ _, fun _ => rfl⟩
  · subst hv
    exact ⟨_, cap, rfl, h1, h2, own_rowS h, fun e => by cases e⟩

theorem Try.infoPair : (Try.prog.info? 28).map (fun i => (i.zero, i.size, i.bytes)) = some (some (.agg #[.int .i64 0, .int .i64 0]), 2, 16) := by kernel_rfl

/-- A block of one pair, as a literal makes it. -/
theorem pair_new (w : World) (x y : Value) (t : TypeId) : ∀ j u, [x, y][j]? = some u → (w.alloc (.cells #[x, y] t)).cell? ((⟨w.heap.size, 0, none⟩ : Addr).add j) = some u := by
  intro j u hu
  have h := Row.new w [x, y] t (0, 0) (by simp)
  obtain ⟨g, o, e, hc⟩ := h
  cases e
  rw [Addr.add_lit]
  exact hc j u hu
theorem one_pair (x y : Int) : ∀ u ∈ [Value.int .i64 x, Value.int .i64 y], u.oneCell' = true := pv_cells [(x, y)]

/-- What a call leaves that returns new pairs. -/
def MadeP (l : List Pr) (w : World) (e : Ending) (w' : World) : Prop := ∃ v, e = .returned v ∧ w'.ownsRow w.heap.size 28 2 v l.length (pv l) ∧ Below w.heap.size w w'

set_option maxHeartbeats 800000 in
theorem samePairs_len (A A' : Option Addr) (n n' c c' : Nat) (ls ms : List Pr) (w : World) (hn : ls.length = n) (hn' : ms.length = n') (hb : n ≤ 9223372036854775807) (hr : Row w A (pv ls)) (hr' : Row w A' (pv ms)) (he : ls.length = ms.length) :
    Calls Try.prog 12 #[.slice A n c, .slice A' n' c'] w fun e w' => e = .returned (.bool (decide (ls = ms))) ∧ ∃ q, w' = w.drewN q := by
  subst hn
  subst hn'
  have HE := Lib.hid he
  rw [← he]
  clear he
  go_enter Try.func12, Try.ntmps12
  go_wp2_with fail
  go_loopw [5] (fun i wr => ∃ k q : Nat, k ≤ ls.length ∧ i = .int .i64 k ∧ wr = w.drewN q ∧ Hid (ls.take k = ms.take k)) (fun i _ => ls.length - (intOf i).toNat)
  case atStart => exact ⟨0, 0, Nat.zero_le _, rfl, rfl, by show _ = _; simp⟩
  case round =>
    obtain ⟨k, q, hk, rfl, rfl, hkk⟩ := hrel
    by_cases hlt : k < ls.length
    · have hlt' : k < ms.length := by rw [← HE.out]; exact hlt
      obtain ⟨g, o, rfl, hc, hd⟩ := hr.pair hlt
      obtain ⟨g', o', rfl, hc', hd'⟩ := hr'.pair hlt'
      have HS := Lib.hid (List.take_succ_eq_append_getElem hlt)
      have HS' := Lib.hid (List.take_succ_eq_append_getElem hlt')
      have HX : Hid (ls[k]? = some ls[k]) := List.getElem?_eq_getElem hlt
      have HX' : Hid (ms[k]? = some ms[k]) := List.getElem?_eq_getElem hlt'
      generalize ls[k] = x at *
      generalize ms[k] = y at *
      clear hlt' hr hr'
      obtain ⟨x1, x2⟩ := x
      obtain ⟨y1, y2⟩ := y
      simp only at hc hd hc' hd'
      by_cases heq : x1 = y1 ∧ x2 = y2
      · obtain ⟨rfl, rfl⟩ := heq
        go_wp2_with fail
        go_quiet (fail)
        go_wp2_with fail
        go_roundw
        case rel => exact ⟨k + 1, _, by omega, by go_num, rfl, by show _ = _; rw [HS.out, HS'.out, hkk.out]⟩
        case measure => simp [intOf]; omega
      · have hfin : decide (ls = ms) = false := by
          rw [decide_eq_false_iff_not]
          intro e
          apply heq
          have e1 := HX.out
          rw [e, HX'.out] at e1
          injection e1 with e1
          injection e1 with e1 e2
          exact ⟨e1.symm, e2.symm⟩
        have HF := Lib.hid hfin
        clear hfin
        by_cases h1 : x1 = y1
        · subst h1
          have h2 : ¬ x2 = y2 := fun e => heq ⟨rfl, e⟩
          have hz : (x2 == y2) = false := by simpa using h2
          clear heq
          go_wp2_with fail
          go_quiet (fail)
          go_wp2_with fail
          go_ret
          exact ⟨by rw [HF.out]; rfl, q + nq, by rw [World.drewN_drewN]⟩
        · have hz : (x1 == y1) = false := by simpa using h1
          clear heq
          go_wp2_with fail
          go_quiet (fail)
          go_wp2_with fail
          go_ret
          exact ⟨by rw [HF.out]; rfl, q + nq, by rw [World.drewN_drewN]⟩
    · have hfin : decide (ls = ms) = true := by
        have e := hkk.out
        rw [List.take_of_length_le (by omega), List.take_of_length_le (by rw [← HE.out]; omega)] at e
        simpa using e
      have HF := Lib.hid hfin
      clear hfin
      go_wp2_with fail
      go_ret
      exact ⟨by rw [HF.out]; rfl, _, rfl⟩

theorem samePairs_any (A A' : Option Addr) (n n' c c' : Nat) (ls ms : List Pr) (w : World) (hn : ls.length = n) (hn' : ms.length = n') (hb : n ≤ 9223372036854775807) (hr : Row w A (pv ls)) (hr' : Row w A' (pv ms)) :
    Calls Try.prog 12 #[.slice A n c, .slice A' n' c'] w fun e w' => e = .returned (.bool (decide (ls = ms))) ∧ ∃ q, w' = w.drewN q := by
  by_cases he : ls.length = ms.length
  · exact samePairs_len A A' n n' c c' ls ms w hn hn' hb hr hr' he
  · subst hn
    subst hn'
    have hfin : decide (ls = ms) = false := by
      rw [decide_eq_false_iff_not]
      intro e
      exact he (congrArg List.length e)
    rw [hfin]
    have hz : ((ls.length : Int) != (ms.length : Int)) = true := by simp; omega
    clear hfin he
    go_enter Try.func12, Try.ntmps12
    go_wp2_with fail
    go_ret
    exact ⟨rfl, 0, rfl⟩

end Go.Proofs.Ytejpbjglfjhjkaa

namespace Go.Proofs.Ytejpbjglfjhjkaa
open Go.RowKit

theorem own_setS {w : World} {B n sz g c : Nat} {e : TypeId} {us : List Value} (h : w.ownsRow B e sz (.slice (some ⟨g, 0, none⟩) n c) n us) (i : Nat) (x : Value) : (w.setCell ⟨g, i, none⟩ x).ownsRow B e sz (.slice (some ⟨g, 0, none⟩) n c) n (us.set i x) := by
  obtain ⟨hl, h2⟩ := h
  refine ⟨by simpa using hl, .inr ?_⟩
  rcases h2 with ⟨hv, _⟩ | ⟨g', cap, cur, hv, hg, hh, h3, h4, h5, h6⟩
  · cases hv
  · have e1 : g = g' := by injection hv with h; injection h with h; injection h
    have e2 : c = cap := by injection hv
    subst e1
    subst e2
    refine ⟨g, c, cur.setIfInBounds i x, rfl, hg, heap_setCell_same w g i cur e x hh, h3, h4, by simpa using h5, ?_⟩
    rw [Array.toList_setIfInBounds, List.take_set, h6]
theorem grown_setS {w w1 : World} {b : Option Nat} {g i : Nat} {x : Value} (h : w.grownBy w1 b) (hg : some g = b ∨ w.heap.size ≤ g) : w.grownBy (w1.setCell ⟨g, i, none⟩ x) b := by
  refine ⟨h.os, h.tape, h.output, by simpa using h.size, fun k hk hne => ?_⟩
  rw [heap_setCell_other _ _ _ _ (fun e => ?_)]
  · exact h.block k hk hne
  · simp only at e
    subst e
    rcases hg with hg | hg
    · exact hne hg
    · omega
theorem own_posS {w : World} {B n sz : Nat} {e : TypeId} {v : Value} {us : List Value} (h : w.ownsRow B e sz v n us) (hn : 0 < n) : ∃ g c, v = .slice (some ⟨g, 0, none⟩) n c ∧ (∀ i, w.frozen? ⟨g, i, none⟩ = false) ∧ B ≤ g ∧ g < w.heap.size := by
  rcases h.2 with ⟨_, h0⟩ | ⟨g, cap, cur, hv, hg, hh, h3, h4, h5, h6⟩
  · omega
  · refine ⟨g, cap, hv, fun i => ?_, hg, (Array.getElem?_eq_some_iff.1 hh).1⟩
    simp [World.frozen?, hh]

/-- Pairs, all (0, 0), as make makes them. -/
theorem made_pairs (n : Nat) : (madeCells (Value.agg #[.int .i64 0, .int .i64 0]).cells (n * 2)).toList = pv (List.replicate n (0, 0)) := by
  have h1 : (madeCells (Value.agg #[.int .i64 0, .int .i64 0]).cells (n * 2)).toList = List.replicate (n * 2) (.int .i64 0) := by
    refine List.eq_replicate_iff.2 ⟨by simp [size_madeCells], fun b hb => ?_⟩
    have e : (Value.agg #[.int .i64 0, .int .i64 0]).cells = #[.int .i64 0, .int .i64 0] := by rfl
    rw [e] at hb
    simp only [madeCells, Array.toList_map, List.mem_map, Array.mem_toList_iff] at hb
    obtain ⟨j, _, rfl⟩ := hb
    have : j % 2 = 0 ∨ j % 2 = 1 := by omega
    rcases this with h | h <;> simp [h]
  have h2 : pv (List.replicate n (0, 0)) = List.replicate (n * 2) (.int .i64 0) := by
    refine List.eq_replicate_iff.2 ⟨by rw [pv_length]; simp, fun b hb => ?_⟩
    simp only [pv, List.mem_flatMap] at hb
    obtain ⟨p, hp, hb⟩ := hb
    have := List.eq_of_mem_replicate hp
    subst this
    simpa using hb
  rw [h1, h2]
theorem pv_set2 (X Y : List Pr) (p : Pr) (a b : Int) : ((pv (X ++ p :: Y)).set (X.length * 2) (.int .i64 a)).set (X.length * 2 + 1) (.int .i64 b) = pv (X ++ (a, b) :: Y) := by
  rw [pv_append, pv_cons, List.set_append_right _ _ (by rw [pv_length]; omega), pv_length, List.set_append_right _ _ (by rw [pv_length]; omega), pv_length, pv_append, pv_cons]
  simp [show X.length * 2 + 1 - X.length * 2 = 1 by omega]

end Go.Proofs.Ytejpbjglfjhjkaa

namespace Go.Proofs.Ytejpbjglfjhjkaa
open Go.RowKit

/-- Numbers brought to a few. -/
def few (n : Int) (l : List Int) : List Int := l.map fun x => x % n
theorem few_length (n : Int) (l : List Int) : (few n l).length = l.length := by simp [few]
theorem few_step {n : Int} {l : List Int} {k : Nat} {x : Int} (h : l[k]? = some x) : few n (l.take (k + 1)) = few n (l.take k) ++ [x % n] := by
  obtain ⟨hk, e⟩ := List.getElem?_eq_some_iff.1 h
  rw [List.take_succ_eq_append_getElem hk, e]
  simp [few]

theorem mod_unique {x n r q : Int} (hn : 0 < n) (h : r + n * q = x) (h0 : 0 ≤ r) (h1 : r < n) : x % n = r := ((Int.ediv_emod_unique hn).2 ⟨h, h0, h1⟩).2
theorem tmod_few {x n : Int} (hn : 0 < n) : (-n < x.tmod n ∧ x.tmod n < n) ∧ (x.tmod n < 0 → x.tmod n + n = x % n) ∧ (¬ x.tmod n < 0 → x.tmod n = x % n) := by
  by_cases h : 0 ≤ x
  · rw [Int.tmod_eq_emod_of_nonneg h]
    have h1 := Int.emod_nonneg x (by omega : n ≠ 0)
    have h2 := Int.emod_lt_of_pos x hn
    exact ⟨by omega, fun h => by omega, fun _ => rfl⟩
  · obtain ⟨y, rfl⟩ : ∃ y, x = -y := ⟨-x, by omega⟩
    rw [Int.neg_tmod, Int.tmod_eq_emod_of_nonneg (by omega : 0 ≤ y)]
    have h1 := Int.emod_nonneg y (by omega : n ≠ 0)
    have h2 := Int.emod_lt_of_pos y hn
    have h3 := Int.mul_ediv_add_emod y n
    generalize y % n = r at *
    generalize y / n = q at *
    refine ⟨by omega, fun hr => ?_, fun hr => ?_⟩
    · refine (mod_unique (q := -q - 1) hn ?_ (by omega) (by omega)).symm
      rw [Int.mul_sub, Int.mul_neg]
      omega
    · refine (mod_unique (q := -q) hn ?_ (by omega) (by omega)).symm
      rw [Int.mul_neg]
      omega

/-- The head of a round. -/
def FewRel (n : Int) (l : List Int) (w : World) (v i : Value) (wr : World) : Prop :=
  ∃ k : Nat, k ≤ l.length ∧ i = .int .i64 k ∧ wr.ownsRow w.heap.size 3 1 v k (iv (few n (l.take k))) ∧ Below w.heap.size w wr

set_option maxHeartbeats 800000 in
theorem few_any (A : Option Addr) (N c : Nat) (l : List Int) (n : Int) (w : World) (hN : l.length = N) (hb : N ≤ 1048576) (h1 : 0 < n) (h2 : n ≤ 1000) (hr : Row w A (iv l)) :
    Calls Try.prog 13 #[.slice A N c, .int .i64 n] w (MadeI (few n l) w) := by
  subst hN
  obtain ⟨i0, hi, hz0, hz1, hz2⟩ := info_parts Try.infoInt
  go_enter Try.func13, Try.ntmps13
  go_wp2_with fail
  go_loopw [5, 6] (fun v i wr => FewRel n l w v i wr) (fun _ i _ => l.length - (intOf i).toNat)
  case atStart => exact ⟨0, Nat.zero_le _, rfl, World.ownsRow_nil _ _ _ _, Below.refl _ _⟩
  case round =>
    obtain ⟨k, hk, rfl, hwn, hbr⟩ := hrel
    have hsz := hbr.size
    by_cases hlt : k < l.length
    · obtain ⟨g, o, rfl, hc⟩ := (hr.below hbr).int hlt
      have HX : Hid (l[k]? = some l[k]) := List.getElem?_eq_getElem hlt
      generalize l[k] = x at *
      clear hr
      obtain ⟨⟨t1, t2⟩, HM1, HM2⟩ := tmod_few (x := x) h1
      by_cases ht : x.tmod n < 0
      · have HM := Lib.hid (HM1 ht)
        clear HM1 HM2
        go_wp2_with (at_builtin; refine wpList_append_own _ rfl (.tmp 25) (.tmp 27) 26 rfl w.heap.size 3 i0 (.int .i64 0) 1 8 Try.underlying26 hi hz0 hz1 hz2 rfl (by decide) _ _ _ rfl (hwn.alloc _) ⟨wr.heap.size, 0, none⟩ 1 1 [_] rfl rfl (cell_one_new _ _ _) (one_int _ _) (by unfold maxLen; omega) (by omega) (by simp; omega) ?_)
        intro v' w3 hown' hg' _
        have R : FewRel n l w v' (.int .i64 (k + 1 : Nat)) w3 := by
          refine ⟨k + 1, by omega, rfl, ?_, (hbr.alloc (by omega) _).grown hg' (by simp; omega) (fun x hx => (hwn.lt x hx).1)⟩
          rw [few_step HX.out, iv_append, ← HM.out]
          exact hown'
        clear hown' hg' hwn hbr
        go_wp2_with fail
        go_roundw
        case rel => exact R
        case measure => simp [intOf]; omega
      · have HM := Lib.hid (HM2 ht)
        clear HM1 HM2
        go_wp2_with (at_builtin; refine wpList_append_own _ rfl (.tmp 25) (.tmp 27) 26 rfl w.heap.size 3 i0 (.int .i64 0) 1 8 Try.underlying26 hi hz0 hz1 hz2 rfl (by decide) _ _ _ rfl (hwn.alloc _) ⟨wr.heap.size, 0, none⟩ 1 1 [_] rfl rfl (cell_one_new _ _ _) (one_int _ _) (by unfold maxLen; omega) (by omega) (by simp; omega) ?_)
        intro v' w3 hown' hg' _
        have R : FewRel n l w v' (.int .i64 (k + 1 : Nat)) w3 := by
          refine ⟨k + 1, by omega, rfl, ?_, (hbr.alloc (by omega) _).grown hg' (by simp; omega) (fun x hx => (hwn.lt x hx).1)⟩
          rw [few_step HX.out, iv_append, ← HM.out]
          exact hown'
        clear hown' hg' hwn hbr
        go_wp2_with fail
        go_roundw
        case rel => exact R
        case measure => simp [intOf]; omega
    · have hkl : k = l.length := by omega
      subst hkl
      rw [List.take_length] at hwn
      have HF : Hid (MadeI (few n l) w (.returned u5) wr) := ⟨u5, rfl, by rw [few_length]; exact hwn, hbr⟩
      clear hwn hbr
      go_wp2_with fail
      go_ret
      exact HF.out

end Go.Proofs.Ytejpbjglfjhjkaa
