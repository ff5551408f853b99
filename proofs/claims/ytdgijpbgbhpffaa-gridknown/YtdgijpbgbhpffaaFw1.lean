/-
  Contracts of package grid's follow and Run.
-/
import Derived.Test.YtdgijpbgbhpffaaTn1
import Derived.Test.YtdgijpbgbhpffaaGd
import Derived.Deep.QuietTactic
import Derived.BigQuiet
namespace Go.Proofs.Ytdgijpbgbhpffaa
open Go.RowKit

def lastOr (o : Option Pr) : List Pr → Option Pr
  | [] => o
  | c :: l => lastOr (some c) l
theorem goodGo_snoc (a b : List Int) (c : Pr) : ∀ (l : List Pr) (o : Option Pr), goodGo a b o (l ++ [c]) = (goodGo a b o l && (okP a b c && rises (lastOr o l) c))
  | [], o => by simp [goodGo, lastOr]
  | x :: l, o => by
    rw [List.cons_append]
    show (okP a b x && rises o x && goodGo a b (some x) (l ++ [c])) = (okP a b x && rises o x && goodGo a b (some x) l && _)
    rw [goodGo_snoc a b c l (some x), Bool.and_assoc (okP a b x && rises o x)]
    rfl
theorem lastOr_snoc (c : Pr) : ∀ (l : List Pr) (o : Option Pr), lastOr o (l ++ [c]) = some c
  | [], _ => rfl
  | x :: l, _ => lastOr_snoc c l (some x)
/-- The pairs are good, and lie ahead of r and s. -/
def OkTo (a b : List Int) (l : List Pr) (r s : Nat) : Prop := goodB a b l = true ∧ ∀ p, lastOr none l = some p → p.1 < (r : Int) ∧ p.2 < (s : Int)
theorem ok_more {a b : List Int} {l : List Pr} {r s r' s' : Nat} (h : OkTo a b l r s) (hr : r ≤ r') (hs : s ≤ s') : OkTo a b l r' s' := ⟨h.1, fun p hp => by have := h.2 p hp; omega⟩
theorem ok_snoc {a b : List Int} {l : List Pr} {r s : Nat} {x : Int} (h : OkTo a b l r s) (h1 : a[r]? = some x) (h2 : b[s]? = some x) : OkTo a b (l ++ [((r : Int), (s : Int))]) (r + 1) (s + 1) := by
  refine ⟨?_, fun p hp => ?_⟩
  · unfold goodB
    rw [goodGo_snoc, okP_yes h1 h2, Bool.true_and, show goodGo a b none l = true from h.1, Bool.true_and]
    cases e : lastOr none l with
    | none => rfl
    | some p => exact decide_eq_true (h.2 p e)
  · rw [lastOr_snoc] at hp
    cases hp
    constructor <;> (show (_ : Int) < _; simp only; omega)

/-- The head of a round. -/
def FwRel (a b : List Int) (n m : Nat) (w : World) (v i j : Value) (wr : World) : Prop :=
  ∃ (l : List Pr) (k r s : Nat), Hid (l.length = k) ∧ r ≤ n ∧ s ≤ m ∧ k ≤ r ∧ i = .int .i64 (r : Int) ∧ j = .int .i64 (s : Int) ∧ wr.ownsRow w.heap.size 48 2 v k (pv l) ∧ Below w.heap.size w wr ∧ Hid (OkTo a b l r s ∧ k + lx a b r s = lcs a b)
/-- What it leaves. -/
def FwMade (a b : List Int) (w : World) (e : Ending) (w' : World) : Prop := ∃ l, (goodB a b l = true ∧ l.length = lcs a b) ∧ MadeP l w e w'
theorem fw_done {a b : List Int} {l : List Pr} {k r s : Nat} {w wr : World} {v : Value} (hl : l.length = k) (he : a.length ≤ r ∨ b.length ≤ s) (h : wr.ownsRow w.heap.size 48 2 v k (pv l)) (hb : Below w.heap.size w wr) (ho : OkTo a b l r s ∧ k + lx a b r s = lcs a b) : FwMade a b w (.returned v) wr := by
  have e0 : lx a b r s = 0 := by
    rcases he with he | he
    · exact lx_end_left a b r s he
    · exact lx_end_right a b r s he
  subst hl
  exact ⟨l, ⟨ho.1.1, by omega⟩, v, rfl, h, hb⟩
theorem turn_yes {a b : List Int} {r s : Nat} {x y : Int} (h1 : a[r]? = some x) (h2 : b[s]? = some y) (hne : x ≠ y) (ht : turnB a b r s = true) : lx a b r s = lx a b (r + 1) s := by
  unfold turnB at ht
  simp only [Bool.and_eq_true, decide_eq_true_eq] at ht
  rw [lx_other h1 h2 hne]
  omega
theorem turn_no {a b : List Int} {r s : Nat} {x y : Int} (h1 : a[r]? = some x) (h2 : b[s]? = some y) (hne : x ≠ y) (ht : turnB a b r s = false) : lx a b r s = lx a b r (s + 1) := by
  obtain ⟨g, _⟩ := List.getElem?_eq_some_iff.1 h2
  unfold turnB at ht
  rw [decide_eq_true g, Bool.true_and, decide_eq_false_iff_not] at ht
  rw [lx_other h1 h2 hne]
  omega
theorem TurnT.below {a b : List Int} {n q T : Nat} {w w' : World} (h : TurnT a b n q T w) (hb : Below w.heap.size w w') : TurnT a b n q T w' := fun r hr => by
  obtain ⟨B', e1, u, e2, e3⟩ := h r hr
  exact ⟨B', (hb.cell (p := ⟨T, r, none⟩) (World.block_lt_of_cell? _ _ e1)).trans e1, u, e2.of_block (hb.block _ e2.lt), e3⟩

set_option maxRecDepth 100000 in
set_option maxHeartbeats 1600000 in
theorem follow_any (A B : Option Addr) (n m c d q T : Nat) (a b : List Int) (w : World) (hn : a.length = n) (hm : b.length = m) (hb : n ≤ 1048576) (hb' : m ≤ 1048576) (hq : (m + 63) / 64 = q) (h1 : Row w A (iv a)) (h2 : Row w B (iv b)) (hT : TurnT a b n q T w) :
    Calls Try.prog 32 #[.slice A n c, .slice B m d, .slice (some ⟨T, 0, none⟩) n n] w (FwMade a b w) := by
  obtain ⟨i0, hi, hz0, hz1, hz2⟩ := info_parts Try.infoPair
  have HN := Lib.hid hn
  have HM := Lib.hid hm
  have HQ := Lib.hid hq
  have hq1 : q ≤ 16384 := by omega
  clear hn hm hq
  go_enter Try.func32, Try.ntmps32
  go_wp2_with fail
  go_loopw [7, 8, 9] (fun v i j wr => FwRel a b n m w v i j wr) (fun _ i j _ => (n - (intOf i).toNat) + (m - (intOf j).toNat))
  case atStart => exact ⟨[], 0, 0, 0, rfl, Nat.zero_le _, Nat.zero_le _, Nat.le_refl _, rfl, rfl, World.ownsRow_nil _ _ _ _, Below.refl _ _, ⟨rfl, fun p hp => by cases hp⟩, by simp [lx]⟩
  case round =>
    obtain ⟨l, k, r, s, HL, hr, hs, hk, rfl, rfl, hwn, hbr, HO⟩ := hrel
    have hsz := hbr.size
    by_cases hlr : r < n
    · by_cases hls : s < m
      · obtain ⟨g, o, rfl, hc⟩ := (h1.below hbr).int (k := r) (by rw [HN.out]; exact hlr)
        obtain ⟨g', o', rfl, hd⟩ := (h2.below hbr).int (k := s) (by rw [HM.out]; exact hls)
        have HX : Hid (a[r]? = some (a[r]'(by rw [HN.out]; exact hlr))) := List.getElem?_eq_getElem _
        have HY : Hid (b[s]? = some (b[s]'(by rw [HM.out]; exact hls))) := List.getElem?_eq_getElem _
        generalize a[r]'(by rw [HN.out]; exact hlr) = x at *
        generalize b[s]'(by rw [HM.out]; exact hls) = y at *
        obtain ⟨B', t1, u, t2, t3, t4⟩ := (hT.below hbr) r hlr
        have hsq : s / 64 < q := by rw [← HQ.out]; omega
        have t5 := t2.cell hsq
        have HB := Lib.hid (t4 s hsq)
        have hu := t3 (s / 64)
        clear h1 h2 hT t2 t3 t4
        by_cases heq : x = y
        · subst heq
          have HV := Lib.hid (lx_same HX.out HY.out)
          clear t1 t5 HB hu
          go_wp2_with fail
          go_quiet (fail)
          have hwn1 : (wr.drewN nq).ownsRow w.heap.size 48 2 u7 k (pv l) := hwn
          have hbr1 : Below w.heap.size w (wr.drewN nq) := below_drewN hbr nq
          clear hwn hbr hc hd
          generalize wr.drewN nq = wy at *
          have hsy := hbr1.size
          go_wp2_with (at_builtin; refine wpList_append_own _ rfl (.tmp 32) (.tmp 36) 26 rfl w.heap.size 48 i0 (.agg #[.int .i64 0, .int .i64 0]) 2 16 Try.underlying26 hi hz0 hz1 hz2 rfl (by decide) _ _ _ rfl (hwn1.alloc _) ⟨wy.heap.size, 0, none⟩ 1 1 [.int .i64 (r : Int), .int .i64 (s : Int)] rfl rfl (pair_new wy _ _ _) (one_pair _ _) (by unfold maxLen; omega) (by omega) (by simp; omega) ?_)
          intro v' w3 hown' hg' _
          have R : Hid (FwRel a b n m w v' (.int .i64 ((r + 1 : Nat) : Int)) (.int .i64 ((s + 1 : Nat) : Int)) w3) :=
            ⟨l ++ [((r : Int), (s : Int))], k + 1, r + 1, s + 1, by show _ = _; rw [List.length_append, HL.out]; rfl, hlr, hls, by omega, rfl, rfl, by rw [pv_append]; exact hown', (hbr1.alloc (by omega) _).grown hg' (by simp; omega) (fun x hx => (hwn1.lt x hx).1), ok_snoc HO.out.1 HX.out HY.out, by have e1 := HO.out.2; have e2 := HV.out; omega⟩
          clear hown' hg' hwn1 hbr1
          go_wp2_with fail
          go_roundw
          case rel => exact R.out
          case measure => simp [intOf]; omega
        · have hz : (x == y) = false := by simpa using heq
          have HE := Lib.hid heq
          have HT := Lib.hid (bit_test (u (s / 64)) (s % 64) hu)
          rw [HB.out] at HT
          have h64 : s % 64 < 64 := Nat.mod_lt _ (by decide)
          generalize u (s / 64) = U at *
          clear heq HB
          cases ht : turnB a b r s with
          | true =>
            rw [ht] at HT
            have hz2' := HT.out
            have HV := Lib.hid (turn_yes HX.out HY.out HE.out ht)
            clear ht HT
            go_wp2_with fail
            go_quiet (fail)
            have R : Hid (FwRel a b n m w u7 (.int .i64 ((r + 1 : Nat) : Int)) (.int .i64 (s : Int)) (wr.drewN nq)) :=
              ⟨l, k, r + 1, s, HL, hlr, hs, by omega, rfl, rfl, hwn, below_drewN hbr nq, ok_more HO.out.1 (by omega) (Nat.le_refl _), by have e1 := HO.out.2; have e2 := HV.out; omega⟩
            have t1' : (wr.drewN nq).cell? ⟨T, r, none⟩ = _ := t1
            have t5' : (wr.drewN nq).cell? ⟨B', s / 64, none⟩ = _ := t5
            clear hwn hbr hc hd t1 t5
            generalize wr.drewN nq = wy at *
            go_wp2_with fail
            go_roundw
            case rel => exact R.out
            case measure => simp [intOf]; omega
          | false =>
            rw [ht] at HT
            have hz2' := HT.out
            have HV := Lib.hid (turn_no HX.out HY.out HE.out ht)
            clear ht HT
            go_wp2_with fail
            go_quiet (fail)
            have R : Hid (FwRel a b n m w u7 (.int .i64 (r : Int)) (.int .i64 ((s + 1 : Nat) : Int)) (wr.drewN nq)) :=
              ⟨l, k, r, s + 1, HL, hr, hls, hk, rfl, rfl, hwn, below_drewN hbr nq, ok_more HO.out.1 (Nat.le_refl _) (by omega), by have e1 := HO.out.2; have e2 := HV.out; omega⟩
            have t1' : (wr.drewN nq).cell? ⟨T, r, none⟩ = _ := t1
            have t5' : (wr.drewN nq).cell? ⟨B', s / 64, none⟩ = _ := t5
            clear hwn hbr hc hd t1 t5
            generalize wr.drewN nq = wy at *
            go_wp2_with fail
            go_roundw
            case rel => exact R.out
            case measure => simp [intOf]; omega
      · have HF := Lib.hid (fw_done HL.out (.inr (by rw [HM.out]; omega)) hwn hbr HO.out)
        clear hwn hbr
        go_wp2_with fail
        go_ret
        exact HF.out
    · have HF := Lib.hid (fw_done HL.out (.inl (by rw [HN.out]; omega)) hwn hbr HO.out)
      clear hwn hbr
      go_wp2_with fail
      go_ret
      exact HF.out

/-- What Run leaves. -/
def RunMade (a b : List Int) (n m : Nat) (w : World) (e : Ending) (w' : World) : Prop :=
  ∃ (v : Value) (l : List Pr) (P : Int), e = .returned (.tuple #[v, .int .i64 P]) ∧ P = (n : Int) * (m : Int) ∧ (goodB a b l = true ∧ l.length = lcs a b) ∧ w'.ownsRow w.heap.size 48 2 v l.length (pv l) ∧ Below w.heap.size w w'
theorem mul_in {n m : Nat} (hn : n ≤ 1048576) (hm : m ≤ 1048576) : -9223372036854775808 ≤ (n : Int) * (m : Int) ∧ (n : Int) * (m : Int) ≤ 9223372036854775807 := by
  have h1 : n * m ≤ 1048576 * 1048576 := Nat.mul_le_mul hn hm
  have h2 : ((n * m : Nat) : Int) = (n : Int) * (m : Int) := Int.natCast_mul n m
  omega

set_option maxRecDepth 100000 in
set_option maxHeartbeats 1600000 in
theorem prun_any (A B : Option Addr) (n m c d : Nat) (a b : List Int) (w : World) (hn : a.length = n) (hm : b.length = m) (hb : n ≤ 1048576) (hb' : m ≤ 1048576) (h1 : Row w A (iv a)) (h2 : Row w B (iv b)) :
    Calls Try.prog 14 #[.slice A n c, .slice B m d] w (RunMade a b n m w) := by
  have HP := Lib.hid (IntWalk.i64_in _ (mul_in hb hb'))
  have C := Lib.hid (turns_any A B n m c d _ a b w hn hm hb hb' rfl h1 h2)
  have F := Lib.hid (fun w1 T => follow_any A B n m c d _ T a b w1 hn hm hb hb' rfl)
  clear hn hm
  go_enter Try.func14, Try.ntmps14
  go_wp2_with fail
  refine C.out.mono ?_
  rintro e w1 ⟨T, rfl, hT, hB⟩
  have F1 := Lib.hid (F.out w1 T (h1.below hB) (h2.below hB) hT)
  clear C F hT h1 h2
  go_wp2_with fail
  refine F1.out.mono ?_
  rintro e w2 ⟨l, hl, v, rfl, hv, hB2⟩
  have HF : Hid (∀ P : Int, P = (n : Int) * (m : Int) → RunMade a b n m w (.returned (.tuple #[v, .int .i64 P])) w2) := fun P hP => ⟨v, l, P, rfl, hP, hl, own_lowerS hv hB.size, below_go hB hB2⟩
  clear F1 hv hB hB2
  go_wp2_with fail
  go_ret2
  refine HF.out _ ?_
  have := HP.out
  first | exact this | (refine Eq.trans ?_ this; first | rfl | simp [wrap64, IntKind.wrap_i64])

end Go.Proofs.Ytdgijpbgbhpffaa
