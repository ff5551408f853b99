/-
  Words and contracts that the proof leans on.
-/
import Derived.Test.YtncbhnmhaoblaaaM4
import Derived.Test.YtncbhnmhaoblaaaM3
namespace Go.Proofs.Ytncbhnmhaoblaaa
open Go.RowKit

/-- A pair of places that are alike. -/
def okP (a b : List Int) (c : Pr) : Bool := decide (0 ≤ c.1 ∧ c.1 < (a.length : Int) ∧ 0 ≤ c.2 ∧ c.2 < (b.length : Int) ∧ a[c.1.toNat]? = b[c.2.toNat]?)
def rises : Option Pr → Pr → Bool
  | none, _ => true
  | some p, c => decide (p.1 < c.1 ∧ p.2 < c.2)
def goodGo (a b : List Int) : Option Pr → List Pr → Bool
  | _, [] => true
  | p, c :: l => okP a b c && rises p c && goodGo a b (some c) l
/-- The list is valid. -/
def goodB (a b : List Int) (l : List Pr) : Bool := goodGo a b none l
def prevAt (l : List Pr) : Nat → Option Pr
  | 0 => none
  | k + 1 => l[k]?
theorem good_step {a b : List Int} {l : List Pr} {k : Nat} {c : Pr} (h : l[k]? = some c) : goodGo a b (prevAt l k) (l.drop k) = (okP a b c && rises (prevAt l k) c && goodGo a b (prevAt l (k + 1)) (l.drop (k + 1))) := by
  obtain ⟨hk, e⟩ := List.getElem?_eq_some_iff.1 h
  rw [List.drop_eq_getElem_cons hk, e, goodGo]
  show _ = (okP a b c && rises (prevAt l k) c && goodGo a b l[k]? (l.drop (k + 1)))
  rw [h]
theorem good_end {a b : List Int} {l : List Pr} {k : Nat} (h : l.length ≤ k) : goodGo a b (prevAt l k) (l.drop k) = true := by
  rw [List.drop_eq_nil_of_le h, goodGo]
theorem okP_no {a b : List Int} {x y : Int} (h : ¬ (0 ≤ x ∧ x < (a.length : Int) ∧ 0 ≤ y ∧ y < (b.length : Int) ∧ a[x.toNat]? = b[y.toNat]?)) : okP a b (x, y) = false := by unfold okP; rw [decide_eq_false h]
theorem okP_yes {a b : List Int} {x y : Nat} {u : Int} (h1 : a[x]? = some u) (h2 : b[y]? = some u) : okP a b ((x : Int), (y : Int)) = true := by
  have g1 := (List.getElem?_eq_some_iff.1 h1).1
  have g2 := (List.getElem?_eq_some_iff.1 h2).1
  unfold okP
  rw [decide_eq_true]
  refine ⟨by simp, by simp; omega, by simp, by simp; omega, ?_⟩
  simp [h1, h2]

/-- The head of a round. -/
def GoodRel (a b : List Int) (l : List Pr) (w : World) (r : Bool) (i : Value) (wr : World) : Prop :=
  ∃ k : Nat, k ≤ l.length ∧ i = .int .i64 k ∧ Below w.heap.size w wr ∧ Hid (goodGo a b (prevAt l k) (l.drop k) = r)

set_option maxRecDepth 100000 in
set_option maxHeartbeats 3200000 in
theorem good_any (A B C : Option Addr) (n m N c d e : Nat) (a b : List Int) (l : List Pr) (w : World) (hn : a.length = n) (hm : b.length = m) (hN : l.length = N) (hbN : N ≤ 2147483648) (h1 : Row w A (iv a)) (h2 : Row w B (iv b)) (h3 : Row w C (pv l)) :
    Calls Try.prog 18 #[.slice A n c, .slice B m d, .slice C N e] w fun e w' => e = .returned (.bool (goodB a b l)) ∧ Below w.heap.size w w' := by
  obtain ⟨r, hr⟩ : ∃ r, goodB a b l = r := ⟨_, rfl⟩
  rw [hr]
  have HR := Lib.hid hr
  have HN := Lib.hid hn
  have HM := Lib.hid hm
  subst hN
  clear hr hn hm
  go_enter Try.func18, Try.ntmps18
  go_wp2_with fail
  go_loopw [7] (fun i wr => GoodRel a b l w r i wr) (fun i _ => l.length - (intOf i).toNat)
  case atStart => exact ⟨0, Nat.zero_le _, rfl, Below.refl _ _, HR.out⟩
  case round =>
    obtain ⟨k, hk, rfl, hbw, hkk⟩ := hrel
    by_cases hlt : k < l.length
    · have r1 := h1.below hbw
      have r2 := h2.below hbw
      have r3 := h3.below hbw
      obtain ⟨g, o, rfl, hc, hd⟩ := r3.pair hlt
      have HX : Hid (l[k]? = some l[k]) := List.getElem?_eq_getElem hlt
      generalize l[k] = z at *
      clear h1 h2 h3
      obtain ⟨z1, z2⟩ := z
      simp only at hc hd
      have HS := Lib.hid (hkk.out.symm.trans (good_step HX.out))
      have hsz := hbw.size
      have HBW := Lib.hid (fun o => hbw.alloc hsz o)
      clear hbw hkk
      by_cases c1 : z1 < 0
      · have hf : Hid (r = false) := by show _ = _; rw [HS.out, okP_no (by omega)]; rfl
        have t1 : decide (z1 < 0) = true := by simp; omega
        clear HS r3
        go_wp2_with fail
        go_quiet (fail)
        go_wp2_with fail
        go_ret
        exact ⟨ret_bool hf.out.symm, below_drewN (HBW.out _) _⟩
      by_cases c2 : z1 < (n : Int)
      case neg =>
        have hf : Hid (r = false) := by show _ = _; rw [HS.out, okP_no (by rw [HN.out]; omega)]; rfl
        have t1 : decide (z1 < 0) = false := by simp; omega
        have t2 : decide ((n : Int) ≤ z1) = true := by simp; omega
        clear HS r3
        go_wp2_with fail
        go_quiet (fail)
        go_wp2_with fail
        go_ret
        exact ⟨ret_bool hf.out.symm, below_drewN (HBW.out _) _⟩
      by_cases c3 : z2 < 0
      · have hf : Hid (r = false) := by show _ = _; rw [HS.out, okP_no (by omega)]; rfl
        have t1 : decide (z1 < 0) = false := by simp; omega
        have t2 : decide ((n : Int) ≤ z1) = false := by simp; omega
        have t3 : decide (z2 < 0) = true := by simp; omega
        clear HS r3
        go_wp2_with fail
        go_quiet (fail)
        go_wp2_with fail
        go_ret
        exact ⟨ret_bool hf.out.symm, below_drewN (HBW.out _) _⟩
      by_cases c4 : z2 < (m : Int)
      case neg =>
        have hf : Hid (r = false) := by show _ = _; rw [HS.out, okP_no (by rw [HM.out]; omega)]; rfl
        have t1 : decide (z1 < 0) = false := by simp; omega
        have t2 : decide ((n : Int) ≤ z1) = false := by simp; omega
        have t3 : decide (z2 < 0) = false := by simp; omega
        have t4 : decide ((m : Int) ≤ z2) = true := by simp; omega
        clear HS r3
        go_wp2_with fail
        go_quiet (fail)
        go_wp2_with fail
        go_ret
        exact ⟨ret_bool hf.out.symm, below_drewN (HBW.out _) _⟩
      obtain ⟨x, rfl⟩ := Int.eq_ofNat_of_zero_le (by omega : 0 ≤ z1)
      obtain ⟨y, rfl⟩ := Int.eq_ofNat_of_zero_le (by omega : 0 ≤ z2)
      have x1 : x < n := by omega
      have y1 : y < m := by omega
      obtain ⟨ga, oa, rfl, ha⟩ := r1.int (k := x) (by rw [HN.out]; exact x1)
      obtain ⟨gb, ob, rfl, hbb⟩ := r2.int (k := y) (by rw [HM.out]; exact y1)
      have HU : Hid (a[x]? = some (a[x]'(by rw [HN.out]; exact x1))) := List.getElem?_eq_getElem _
      have HV : Hid (b[y]? = some (b[y]'(by rw [HM.out]; exact y1))) := List.getElem?_eq_getElem _
      generalize a[x]'(by rw [HN.out]; exact x1) = u at *
      generalize b[y]'(by rw [HM.out]; exact y1) = v at *
      have ha' : ∀ o', (wr.alloc o').cell? ⟨ga, oa + x, none⟩ = some (.int .i64 u) := fun o' => (((Below.refl _ wr).alloc (Nat.le_refl _) o').cell (p := ⟨ga, oa + x, none⟩) (World.block_lt_of_cell? _ _ ha)).trans ha
      have hb2 : ∀ o', (wr.alloc o').cell? ⟨gb, ob + y, none⟩ = some (.int .i64 v) := fun o' => (((Below.refl _ wr).alloc (Nat.le_refl _) o').cell (p := ⟨gb, ob + y, none⟩) (World.block_lt_of_cell? _ _ hbb)).trans hbb
      have t3 : decide ((y : Int) < 0) = false := by simp
      have t1 : decide ((x : Int) < 0) = false := by simp
      have t2 : decide ((n : Int) ≤ (x : Int)) = false := by simp; omega
      have t4 : decide ((m : Int) ≤ (y : Int)) = false := by simp; omega
      have t2' : decide (n ≤ x) = false := by simp; omega
      have t4' : decide (m ≤ y) = false := by simp; omega
      clear c1 c2 c3 c4
      by_cases huv : u = v
      case neg =>
        have hf : Hid (r = false) := by
          show _ = _
          rw [HS.out, okP_no (by simp only [Int.toNat_natCast]; rw [HU.out, HV.out]; intro h; exact huv (Option.some.inj h.2.2.2.2))]
          rfl
        have t5 : (u != v) = true := by simpa using huv
        clear HS r3 ha hbb
        go_wp2_with fail
        go_quiet (fail)
        go_wp2_with fail
        go_ret
        exact ⟨ret_bool hf.out.symm, below_drewN (HBW.out _) _⟩
      subst huv
      have HS2 : Hid (r = (rises (prevAt l k) ((x : Int), (y : Int)) && goodGo a b (prevAt l (k + 1)) (l.drop (k + 1)))) := by
        show _ = _
        rw [HS.out, okP_yes HU.out HV.out, Bool.true_and]
      clear HS ha hbb
      cases k with
      | zero =>
        have R : Hid (goodGo a b (prevAt l 1) (l.drop 1) = r) := by
          show _ = _
          have h := HS2.out
          simp only [prevAt, rises, Bool.true_and] at h
          exact h.symm
        clear HS2 r3
        simp only [Nat.zero_mul, Nat.add_zero] at hc hd
        go_wp2_with fail
        go_quiet (fail)
        have qa := pair_new wr (.int .i64 (x : Int)) (.int .i64 (y : Int)) 29 0 _ rfl
        have qb := pair_new wr (.int .i64 (x : Int)) (.int .i64 (y : Int)) 29 1 _ rfl
        simp only [Addr.add_lit, Nat.add_zero, Nat.zero_add] at qa qb
        have wa : ((wr.alloc (.cells #[.int .i64 (x : Int), .int .i64 (y : Int)] 29)).drewN nq).cell? ⟨wr.heap.size, 0, none⟩ = some (.int .i64 (x : Int)) := qa
        have wb : ((wr.alloc (.cells #[.int .i64 (x : Int), .int .i64 (y : Int)] 29)).drewN nq).cell? ⟨wr.heap.size, 1, none⟩ = some (.int .i64 (y : Int)) := qb
        have HZ : Below w.heap.size w ((wr.alloc (.cells #[.int .i64 (x : Int), .int .i64 (y : Int)] 29)).drewN nq) := below_drewN (HBW.out _) nq
        clear qa qb ha' hb2 t1 t2 t3 t4 t2' t4'
        generalize (wr.alloc (.cells #[.int .i64 (x : Int), .int .i64 (y : Int)] 29)).drewN nq = wz at *
        generalize wr.heap.size = X at *
        go_wp2_with fail
        go_quiet (fail)
        have G : GoodRel a b l w r (.int .i64 (1 : Nat)) (wz.drewN nq) := ⟨1, by omega, rfl, below_drewN HZ _, R.out⟩
        go_wp2_with fail
        go_roundw
        case rel => first | exact G | ((repeat apply Exists.intro); exact ⟨G, rfl⟩)
        case measure => simp [intOf]; omega
      | succ k =>
        have hk' : k < l.length := by omega
        obtain ⟨_, _, eC, pc, pd⟩ := r3.pair hk'
        cases eC
        have HP : Hid (l[k]? = some l[k]) := List.getElem?_eq_getElem hk'
        have HR2 : Hid (r = (rises (some l[k]) ((x : Int), (y : Int)) && goodGo a b (prevAt l (k + 2)) (l.drop (k + 2)))) := by
          show _ = _
          rw [HS2.out]
          show (rises l[k]? _ && _) = _
          rw [HP.out]
        generalize l[k] = p at *
        obtain ⟨p1, p2⟩ := p
        simp only at pc pd
        clear HS2 r3 HP
        have ks : ((k + 1 : Nat) : Int) - 1 = (k : Int) := by omega
        go_wp2_with fail
        go_quiet (fail)
        have qa := pair_new wr (.int .i64 (x : Int)) (.int .i64 (y : Int)) 29 0 _ rfl
        have qb := pair_new wr (.int .i64 (x : Int)) (.int .i64 (y : Int)) 29 1 _ rfl
        simp only [Addr.add_lit, Nat.add_zero, Nat.zero_add] at qa qb
        have wa : ((wr.alloc (.cells #[.int .i64 (x : Int), .int .i64 (y : Int)] 29)).drewN nq).cell? ⟨wr.heap.size, 0, none⟩ = some (.int .i64 (x : Int)) := qa
        have wb : ((wr.alloc (.cells #[.int .i64 (x : Int), .int .i64 (y : Int)] 29)).drewN nq).cell? ⟨wr.heap.size, 1, none⟩ = some (.int .i64 (y : Int)) := qb
        have HZ : Below w.heap.size w ((wr.alloc (.cells #[.int .i64 (x : Int), .int .i64 (y : Int)] 29)).drewN nq) := below_drewN (HBW.out _) nq
        have wc1 : ((wr.alloc (.cells #[.int .i64 (x : Int), .int .i64 (y : Int)] 29)).drewN nq).cell? ⟨g, o + k * 2, none⟩ = some (.int .i64 p1) := (((Below.refl _ wr).alloc (Nat.le_refl _) _).cell (p := ⟨g, o + k * 2, none⟩) (World.block_lt_of_cell? _ _ pc)).trans pc
        have wd1 : ((wr.alloc (.cells #[.int .i64 (x : Int), .int .i64 (y : Int)] 29)).drewN nq).cell? ⟨g, o + k * 2 + 1, none⟩ = some (.int .i64 p2) := (((Below.refl _ wr).alloc (Nat.le_refl _) _).cell (p := ⟨g, o + k * 2 + 1, none⟩) (World.block_lt_of_cell? _ _ pd)).trans pd
        clear pc pd
        clear qa qb hc hd ha' hb2 t1 t2 t3 t4 t2' t4'
        generalize (wr.alloc (.cells #[.int .i64 (x : Int), .int .i64 (y : Int)] 29)).drewN nq = wz at *
        generalize wr.heap.size = X at *
        by_cases k1 : (x : Int) ≤ p1
        · have hf : Hid (r = false) := by
            show _ = _
            rw [HR2.out]
            simp only [rises]
            rw [decide_eq_false (by omega), Bool.false_and]
          have e1 : decide ((x : Int) ≤ p1) = true := by simpa using k1
          clear HR2 k1
          go_wp2_with fail
          go_quiet (fail)
          go_wp2_with fail
          go_ret
          exact ⟨ret_bool hf.out.symm, below_drewN HZ _⟩
        · have e1 : decide ((x : Int) ≤ p1) = false := by simp; omega
          by_cases k2 : (y : Int) ≤ p2
          · have hf : Hid (r = false) := by
              show _ = _
              rw [HR2.out]
              simp only [rises]
              rw [decide_eq_false (by omega), Bool.false_and]
            have e2 : decide ((y : Int) ≤ p2) = true := by simpa using k2
            clear HR2 k1 k2
            go_wp2_with fail
            go_quiet (fail)
            go_wp2_with fail
            go_ret
            exact ⟨ret_bool hf.out.symm, below_drewN HZ _⟩
          · have e2 : decide ((y : Int) ≤ p2) = false := by simp; omega
            have R : Hid (goodGo a b (prevAt l (k + 2)) (l.drop (k + 2)) = r) := by
              show _ = _
              rw [HR2.out]
              simp only [rises]
              rw [decide_eq_true (by omega), Bool.true_and]
            clear HR2 k1 k2
            go_wp2_with fail
            go_quiet (fail)
            have G : GoodRel a b l w r (.int .i64 (k + 2 : Nat)) (wz.drewN nq) := ⟨k + 2, by omega, rfl, below_drewN HZ _, R.out⟩
            go_wp2_with fail
            go_roundw
            case rel => first | exact G | ((repeat apply Exists.intro); exact ⟨G, rfl⟩)
            case measure => simp [intOf]; omega
    · have hf : Hid (r = true) := by show _ = _; rw [← hkk.out, good_end (by omega)]
      go_wp2_with fail
      go_ret
      exact ⟨ret_bool hf.out.symm, hbw⟩

end Go.Proofs.Ytncbhnmhaoblaaa

namespace Go.Proofs.Ytncbhnmhaoblaaa

def lastOr (o : Option Pr) : List Pr → Option Pr
  | [] => o
  | c :: l => lastOr (some c) l
theorem goodGo_snoc (a b : List Int) (c : Pr) : ∀ (l : List Pr) (o : Option Pr), goodGo a b o (l ++ [c]) = (goodGo a b o l && (okP a b c && rises (lastOr o l) c))
  | [], o => by simp [goodGo, lastOr]
  | x :: l, o => by
    rw [List.cons_append]
    show (okP a b x && rises o x && goodGo a b (some x) (l ++ [c])) = (okP a b x && rises o x && goodGo a b (some x) l && _)
    rw [goodGo_snoc a b c l (some x), Bool.and_assoc (okP a b x && rises o x)]
    rfl
theorem lastOr_snoc (c : Pr) : ∀ (l : List Pr) (o : Option Pr), lastOr o (l ++ [c]) = some c
  | [], _ => rfl
  | x :: l, _ => lastOr_snoc c l (some x)
/-- The pairs are good, and lie ahead of r and s. -/
def OkTo (a b : List Int) (l : List Pr) (r s : Nat) : Prop := goodB a b l = true ∧ ∀ p, lastOr none l = some p → p.1 < (r : Int) ∧ p.2 < (s : Int)
theorem ok_more {a b : List Int} {l : List Pr} {r s r' s' : Nat} (h : OkTo a b l r s) (hr : r ≤ r') (hs : s ≤ s') : OkTo a b l r' s' := ⟨h.1, fun p hp => by have := h.2 p hp; omega⟩
theorem ok_snoc {a b : List Int} {l : List Pr} {r s : Nat} {x : Int} (h : OkTo a b l r s) (h1 : a[r]? = some x) (h2 : b[s]? = some x) : OkTo a b (l ++ [((r : Int), (s : Int))]) (r + 1) (s + 1) := by
  refine ⟨?_, fun p hp => ?_⟩
  · unfold goodB
    rw [goodGo_snoc, okP_yes h1 h2, Bool.true_and, show goodGo a b none l = true from h.1, Bool.true_and]
    cases e : lastOr none l with
    | none => rfl
    | some p => exact decide_eq_true (h.2 p e)
  · rw [lastOr_snoc] at hp
    cases hp
    constructor <;> (show (_ : Int) < _; simp only; omega)

end Go.Proofs.Ytncbhnmhaoblaaa

namespace Go.Proofs.Ytncbhnmhaoblaaa
open Go.RowKit

theorem iv_dropX (l : List Int) (k : Nat) : (iv l).drop k = iv (l.drop k) := by simp [iv, List.map_drop]
theorem iv_takeX (l : List Int) (k : Nat) : (iv l).take k = iv (l.take k) := by simp [iv, List.map_take]

set_option maxRecDepth 100000 in
theorem size_int (w : World) : (sizeOf (Try.prog.elem 26)).run Try.prog w = .ok 1 w := by
  rfl

set_option maxRecDepth 100000 in
/-- l[lo:]. -/
theorem slice_from (A : Option Addr) (n c lo : Nat) (l : List Int) (w0 : World) (h : Row w0 A (iv l)) (hn : l.length = n) (hc : n ≤ c) (hlo : lo ≤ n) :
    ∃ A' c', (∀ w, (Instr.sliceAt 26 (.slice A n c) (some (.int .i64 (lo : Int))) none none).run Try.prog w = .ok (.slice A' (n - lo) c') w) ∧ n - lo ≤ c' ∧ Row w0 A' (iv (l.drop lo)) := by
  refine ⟨if c = lo then A else A.map (·.add (lo * 1)), c - lo, fun w => ?_, by omega, ?_⟩
  · rw [run_sliceAt_slice w 26 _ _ _ _ Try.underlying26, run_slice_l w 26 A n c Try.underlying26 .i64 (lo : Int) (by omega) (by omega), size_int]
    simp [Result.andThen, sliced]
  · have := h.cut lo n c hlo (by rw [iv_length]; omega) (by rw [iv_length]; omega)
    rw [iv_dropX, List.take_of_length_le (by rw [iv_length, List.length_drop]; omega)] at this
    rw [Nat.mul_one]
    exact this
set_option maxRecDepth 100000 in
/-- l[:hi]. -/
theorem slice_to (A : Option Addr) (n c hi : Nat) (l : List Int) (w0 : World) (h : Row w0 A (iv l)) (hhi : hi ≤ c) :
    (∀ w, (Instr.sliceAt 26 (.slice A n c) none (some (.int .i64 (hi : Int))) none).run Try.prog w = .ok (.slice A hi c) w) ∧ Row w0 A (iv (l.take hi)) := by
  refine ⟨fun w => ?_, ?_⟩
  · rw [run_sliceAt_slice w 26 _ _ _ _ Try.underlying26, run_slice_h w 26 A n c Try.underlying26 .i64 (hi : Int) (by omega) (by omega), size_int]
    cases A <;> simp [Result.andThen, sliced, Addr.add]
  · rw [← iv_takeX]
    exact h.take hi
end Go.Proofs.Ytncbhnmhaoblaaa

namespace Go.Proofs.Ytncbhnmhaoblaaa

/-! Step by step. -/
/-! Good ones. -/
end Go.Proofs.Ytncbhnmhaoblaaa

namespace Go.Proofs.Ytncbhnmhaoblaaa
open Go.RowKit

end Go.Proofs.Ytncbhnmhaoblaaa
