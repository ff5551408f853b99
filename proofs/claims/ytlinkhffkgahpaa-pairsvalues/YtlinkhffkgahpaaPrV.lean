/-
  Contracts of package pairs' Values, and of the reference's Values and Within.
-/
import Derived.Test.YtlinkhffkgahpaaPrP
import Derived.Test.YtlinkhffkgahpaaLow
namespace Go.Proofs.Ytlinkhffkgahpaa
open Go.RowKit

theorem cell_one_new1 (w : World) (o : Obj) (x : Value) (t : TypeId) : ∀ j u, [x][j]? = some u → ((w.alloc o).alloc (.cells #[x] t)).cell? ((⟨w.heap.size + 1, 0, none⟩ : Addr).add j) = some u := by
  intro j u hu
  have := cell_one_new (w.alloc o) x t j u hu
  simpa using this

/-- The head of a round. -/
def ValRel (a : List Int) (l : List Pr) (w : World) (v i : Value) (wr : World) : Prop :=
  ∃ k t : Nat, k ≤ l.length ∧ t ≤ k ∧ i = .int .i64 (k : Int) ∧ Hid ((valsOf a (l.take k)).length = t) ∧ wr.ownsRow w.heap.size 3 1 v t (iv (valsOf a (l.take k))) ∧ Below w.heap.size w wr
theorem val_skip {a : List Int} {l : List Pr} {w wr : World} {v : Value} {k t : Nat} {p : Pr} (hk : k < l.length) (ht : t ≤ k) (hp : l[k]? = some p) (hv : valAt a p = []) (hl : (valsOf a (l.take k)).length = t) (h : wr.ownsRow w.heap.size 3 1 v t (iv (valsOf a (l.take k)))) (hb : Below w.heap.size w wr) : ValRel a l w v (.int .i64 (k + 1 : Nat)) wr := by
  have e := vals_step (a := a) hp
  rw [hv, List.append_nil] at e
  exact ⟨k + 1, t, by omega, by omega, rfl, by show _ = _; rw [e, hl], by rw [e]; exact h, hb⟩
theorem val_put {a : List Int} {l : List Pr} {w wr : World} {v : Value} {k t : Nat} {p : Pr} {u : Int} (hk : k < l.length) (ht : t ≤ k) (hp : l[k]? = some p) (hv : valAt a p = [u]) (hl : (valsOf a (l.take k)).length = t) (h : wr.ownsRow w.heap.size 3 1 v (t + 1) (iv (valsOf a (l.take k)) ++ [.int .i64 u])) (hb : Below w.heap.size w wr) : ValRel a l w v (.int .i64 (k + 1 : Nat)) wr := by
  have e := vals_step (a := a) hp
  rw [hv] at e
  exact ⟨k + 1, t + 1, by omega, by omega, rfl, by show _ = _; rw [e, List.length_append, hl]; rfl, by rw [e, iv_append]; exact h, hb⟩
theorem val_done {a : List Int} {l : List Pr} {w wr : World} {v : Value} {k t : Nat} (hk : ¬ k < l.length) (hl : (valsOf a (l.take k)).length = t) (h : wr.ownsRow w.heap.size 3 1 v t (iv (valsOf a (l.take k)))) (hb : Below w.heap.size w wr) : MadeI (valsOf a l) w (.returned v) wr := by
  rw [List.take_of_length_le (by omega)] at h hl
  subst hl
  exact ⟨v, rfl, h, hb⟩

set_option maxRecDepth 100000 in
set_option maxHeartbeats 1600000 in
theorem pvals (A C : Option Addr) (n N c d : Nat) (a : List Int) (l : List Pr) (w : World) (hn : a.length = n) (hN : l.length = N) (hb : N ≤ 1048576) (ha : Row w A (iv a)) (hr : Row w C (pv l)) :
    Calls Try.prog 12 #[.slice A n c, .slice C N d] w (MadeI (valsOf a l) w) := by
  subst hN
  have HN := Lib.hid hn
  clear hn
  obtain ⟨i0, hi, hz0, hz1, hz2⟩ := info_parts Try.infoInt
  go_enter Try.func12, Try.ntmps12
  go_wp2_with (at_make; refine wpList_make_own _ rfl _ _ 22 rfl w.heap.size 3 i0 (.int .i64 0) 1 Try.underlying22 hi hz0 hz1 .i64 .i64 _ l.length rfl rfl rfl (by rw [hz2]; omega) (by unfold maxLen; omega) (Nat.le_refl _) ?_)
  intro w1 hown hg
  have HS : Hid (ValRel a l w (.slice (some ⟨w.heap.size, 0, none⟩) 0 l.length) (.int .i64 0) w1) := ⟨0, 0, Nat.zero_le _, Nat.le_refl _, rfl, rfl, hown, (Below.refl _ _).grown hg (Nat.le_refl _) (fun k hk => by cases hk)⟩
  clear hown hg
  go_wp2_with fail
  go_loopw [5, 13] (fun v i wr => ValRel a l w v i wr) (fun _ i _ => l.length - (intOf i).toNat)
  case atStart => exact HS.out
  case round =>
    clear HS
    obtain ⟨k, t, hk, ht, rfl, HT, hwn, hbr⟩ := hrel
    have hsz := hbr.size
    by_cases hlt : k < l.length
    · obtain ⟨g, o, rfl, hc, hd⟩ := (hr.below hbr).pair hlt
      have HX : Hid (l[k]? = some l[k]) := List.getElem?_eq_getElem hlt
      have ha1 := ha.below hbr
      generalize l[k] = z at *
      clear hr ha
      obtain ⟨z1, z2⟩ := z
      simp only at hc hd
      by_cases c1 : 0 ≤ z1
      · by_cases c2 : z1 < (n : Int)
        · obtain ⟨x, rfl⟩ := Int.eq_ofNat_of_zero_le c1
          have hx : x < n := by omega
          obtain ⟨ga, oa, rfl, hca⟩ := ha1.int (k := x) (by rw [HN.out]; exact hx)
          have HU : Hid (a[x]? = some (a[x]'(by rw [HN.out]; exact hx))) := List.getElem?_eq_getElem _
          generalize a[x]'(by rw [HN.out]; exact hx) = u at *
          clear ha1 c1
          have ha' : ∀ o', (wr.alloc o').cell? ⟨ga, oa + x, none⟩ = some (.int .i64 u) := fun o' => (((Below.refl _ wr).alloc (Nat.le_refl _) o').cell (p := ⟨ga, oa + x, none⟩) (World.block_lt_of_cell? _ _ hca)).trans hca
          go_wp2_with (at_builtin; refine wpList_append_own _ rfl (.tmp 27) (.tmp 33) 22 rfl w.heap.size 3 i0 (.int .i64 0) 1 8 Try.underlying22 hi hz0 hz1 hz2 rfl (by decide) _ t _ rfl ((hwn.alloc _).alloc _) ⟨wr.heap.size + 1, 0, none⟩ 1 1 [_] rfl rfl (cell_one_new1 _ _ _ _) (one_int _ _) (by unfold maxLen; omega) (by omega) (by simp; omega) ?_)
          intro v' w3 hown' hg' _
          have R := Lib.hid (val_put hlt ht HX.out (valAt_in HU.out) HT.out hown' (((hbr.alloc hsz _).alloc (by simp; omega) _).grown hg' (by simp; omega) (fun x hx => (hwn.lt x hx).1)))
          clear hown' hg' hwn hbr
          go_wp2_with fail
          go_roundw
          case rel => exact R.out
          case measure => simp [intOf]; omega
        · have R := Lib.hid (fun o => val_skip (wr := wr.alloc o) hlt ht HX.out (valAt_out (a := a) (by rw [HN.out]; omega)) HT.out (hwn.alloc o) (hbr.alloc hsz o))
          clear hwn hbr ha1
          go_wp2_with fail
          go_roundw
          case rel => exact R.out _
          case measure => simp [intOf]; omega
      · have R := Lib.hid (fun o => val_skip (wr := wr.alloc o) hlt ht HX.out (valAt_out (a := a) (by omega)) HT.out (hwn.alloc o) (hbr.alloc hsz o))
        clear hwn hbr ha1
        go_wp2_with fail
        go_roundw
        case rel => exact R.out _
        case measure => simp [intOf]; omega
    · have HF := Lib.hid (val_done hlt HT.out hwn hbr)
      clear hwn hbr
      go_wp2_with fail
      go_ret
      exact HF.out

set_option maxRecDepth 100000 in
set_option maxHeartbeats 1600000 in
theorem refVals (A C : Option Addr) (n N c d : Nat) (a : List Int) (l : List Pr) (w : World) (hn : a.length = n) (hN : l.length = N) (hb : N ≤ 1048576) (ha : Row w A (iv a)) (hr : Row w C (pv l)) :
    Calls Try.prog 22 #[.slice A n c, .slice C N d] w (MadeI (valsOf a l) w) := by
  subst hN
  have HN := Lib.hid hn
  clear hn
  obtain ⟨i0, hi, hz0, hz1, hz2⟩ := info_parts Try.infoInt
  go_enter Try.func22, Try.ntmps22
  have HS : Hid (ValRel a l w (.slice none 0 0) (.int .i64 0) w) := ⟨0, 0, Nat.zero_le _, Nat.le_refl _, rfl, rfl, World.ownsRow_nil _ _ _ _, Below.refl _ _⟩
  go_wp2_with fail
  go_loopw [5, 6] (fun v i wr => ValRel a l w v i wr) (fun _ i _ => l.length - (intOf i).toNat)
  case atStart => exact HS.out
  case round =>
    clear HS
    obtain ⟨k, t, hk, ht, rfl, HT, hwn, hbr⟩ := hrel
    have hsz := hbr.size
    by_cases hlt : k < l.length
    · obtain ⟨g, o, rfl, hc, hd⟩ := (hr.below hbr).pair hlt
      have HX : Hid (l[k]? = some l[k]) := List.getElem?_eq_getElem hlt
      have ha1 := ha.below hbr
      generalize l[k] = z at *
      clear hr ha
      obtain ⟨z1, z2⟩ := z
      simp only at hc hd
      by_cases c1 : 0 ≤ z1
      · by_cases c2 : z1 < (n : Int)
        · obtain ⟨x, rfl⟩ := Int.eq_ofNat_of_zero_le c1
          have hx : x < n := by omega
          obtain ⟨ga, oa, rfl, hca⟩ := ha1.int (k := x) (by rw [HN.out]; exact hx)
          have HU : Hid (a[x]? = some (a[x]'(by rw [HN.out]; exact hx))) := List.getElem?_eq_getElem _
          generalize a[x]'(by rw [HN.out]; exact hx) = u at *
          clear ha1 c1
          go_wp2_with (at_builtin; refine wpList_append_own _ rfl (.tmp 29) (.tmp 38) 22 rfl w.heap.size 3 i0 (.int .i64 0) 1 8 Try.underlying22 hi hz0 hz1 hz2 rfl (by decide) _ t _ rfl (hwn.alloc _) ⟨wr.heap.size, 0, none⟩ 1 1 [_] rfl rfl (cell_one_new _ _ _) (one_int _ _) (by unfold maxLen; omega) (by omega) (by simp; omega) ?_)
          intro v' w3 hown' hg' _
          have R := Lib.hid (val_put hlt ht HX.out (valAt_in HU.out) HT.out hown' ((hbr.alloc hsz _).grown hg' (by simp; omega) (fun x hx => (hwn.lt x hx).1)))
          clear hown' hg' hwn hbr
          go_wp2_with fail
          go_roundw
          case rel => exact R.out
          case measure => simp [intOf]; omega
        · have R := Lib.hid (val_skip hlt ht HX.out (valAt_out (a := a) (by rw [HN.out]; omega)) HT.out hwn hbr)
          clear hwn hbr ha1
          go_wp2_with fail
          go_roundw
          case rel => exact R.out
          case measure => simp [intOf]; omega
      · have R := Lib.hid (val_skip hlt ht HX.out (valAt_out (a := a) (by omega)) HT.out hwn hbr)
        clear hwn hbr ha1
        go_wp2_with fail
        go_roundw
        case rel => exact R.out
        case measure => simp [intOf]; omega
    · have HF := Lib.hid (val_done hlt HT.out hwn hbr)
      clear hwn hbr
      go_wp2_with fail
      go_ret
      exact HF.out

/-! Is s a subsequence? -/
def WithinRel (s b : List Int) (r : Bool) (w : World) (u i : Value) (wr : World) : Prop :=
  ∃ k j q : Nat, k ≤ s.length ∧ j ≤ b.length ∧ u = .int .i64 (k : Int) ∧ i = .int .i64 (j : Int) ∧ wr = w.drewN q ∧ Hid ((s.drop k).isSublist (b.drop j) = r)
theorem sub_step {s b : List Int} {k j : Nat} {x y : Int} (h : s[k]? = some x) (h' : b[j]? = some y) : (s.drop k).isSublist (b.drop j) = if x = y then (s.drop (k + 1)).isSublist (b.drop (j + 1)) else (s.drop k).isSublist (b.drop (j + 1)) := by
  obtain ⟨hk, e⟩ := List.getElem?_eq_some_iff.1 h
  obtain ⟨hj, e'⟩ := List.getElem?_eq_some_iff.1 h'
  rw [List.drop_eq_getElem_cons hj, List.drop_eq_getElem_cons hk, e, e', List.isSublist]
  by_cases hxy : x = y
  · rw [if_pos hxy, if_pos (by simpa using hxy)]
  · rw [if_neg hxy, if_neg (by simpa using hxy)]
theorem sub_end {s b : List Int} {k j : Nat} (h : ¬ (j < b.length ∧ k < s.length)) (hk : k ≤ s.length) : (s.drop k).isSublist (b.drop j) = decide (k = s.length) := by
  rcases Nat.lt_or_ge k s.length with g | g
  · rw [List.drop_eq_nil_of_le (show b.length ≤ j by omega), List.drop_eq_getElem_cons g, List.isSublist, decide_eq_false (by omega)]
    simpa using g
  · rw [List.drop_eq_nil_of_le g, decide_eq_true (by omega)]
    cases b.drop j <;> rfl

set_option maxRecDepth 100000 in
set_option maxHeartbeats 1600000 in
theorem within_is (A B : Option Addr) (n m c d : Nat) (s b : List Int) (w : World) (hn : s.length = n) (hm : b.length = m) (hb : n ≤ 2147483648) (hb' : m ≤ 2147483648) (h1 : Row w A (iv s)) (h2 : Row w B (iv b)) :
    Calls Try.prog 23 #[.slice A n c, .slice B m d] w fun e w' => e = .returned (.bool (s.isSublist b)) ∧ ∃ q, w' = w.drewN q := by
  subst hn
  subst hm
  obtain ⟨r, hr0⟩ : ∃ r, s.isSublist b = r := ⟨_, rfl⟩
  rw [hr0]
  have HR := Lib.hid hr0
  clear hr0
  go_enter Try.func23, Try.ntmps23
  go_wp2_with fail
  go_loopw [5, 6] (fun u i wr => WithinRel s b r w u i wr) (fun _ i _ => b.length - (intOf i).toNat)
  case atStart => exact ⟨0, 0, 0, Nat.zero_le _, Nat.zero_le _, rfl, rfl, rfl, HR.out⟩
  case round =>
    obtain ⟨k, j, q, hk, hj, rfl, rfl, rfl, hkk⟩ := hrel
    by_cases hlt : j < b.length ∧ k < s.length
    · obtain ⟨hj1, hk1⟩ := hlt
      obtain ⟨g, o, rfl, hc⟩ := h1.int hk1
      obtain ⟨g', o', rfl, hd⟩ := h2.int hj1
      have HX : Hid (s[k]? = some s[k]) := List.getElem?_eq_getElem hk1
      have HY : Hid (b[j]? = some b[j]) := List.getElem?_eq_getElem hj1
      have HS := Lib.hid (hkk.out.symm.trans (sub_step HX.out HY.out))
      generalize s[k] = x at *
      generalize b[j] = y at *
      clear h1 h2 hkk HX HY
      by_cases hxy : x = y
      · subst hxy
        have R : Hid ((s.drop (k + 1)).isSublist (b.drop (j + 1)) = r) := by show _ = _; rw [HS.out, if_pos rfl]
        clear HS
        go_wp2_with fail
        go_quiet (fail)
        go_wp2_with fail
        go_roundw
        case rel => exact ⟨k + 1, j + 1, _, by omega, by omega, by go_num, by go_num, rfl, R.out⟩
        case measure => simp [intOf]; omega
      · have R : Hid ((s.drop k).isSublist (b.drop (j + 1)) = r) := by show _ = _; rw [HS.out, if_neg hxy]
        have hz : (y == x) = false := by simp; exact fun e => hxy e.symm
        clear HS hxy
        go_wp2_with fail
        go_quiet (fail)
        go_wp2_with fail
        go_roundw
        case rel => exact ⟨k, j + 1, _, by omega, by omega, rfl, by go_num, rfl, R.out⟩
        case measure => simp [intOf]; omega
    · have R : Hid (decide (k = s.length) = r) := by show _ = _; rw [← hkk.out, sub_end hlt hk]
      clear hkk h1 h2
      by_cases hks : k = s.length
      · have R' : Hid (true = r) := by show _ = _; rw [← R.out, decide_eq_true hks]
        have hz : ((k : Int) == (s.length : Int)) = true := by simp; omega
        clear R
        go_wp2_with fail
        all_goals (go_ret; exact ⟨ret_bool R'.out, _, rfl⟩)
      · have R' : Hid (false = r) := by show _ = _; rw [← R.out, decide_eq_false hks]
        have hz : ((k : Int) == (s.length : Int)) = false := by simp; omega
        clear R
        go_wp2_with fail
        all_goals (go_ret; exact ⟨ret_bool R'.out, _, rfl⟩)

end Go.Proofs.Ytlinkhffkgahpaa
