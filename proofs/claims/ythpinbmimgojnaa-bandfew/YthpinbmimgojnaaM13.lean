/-
  Words and contracts that the proof leans on.
-/
import Derived.Test.YthpinbmimgojnaaM8
import Derived.Test.YthpinbmimgojnaaM3
import Derived.Test.YthpinbmimgojnaaM6
namespace Go.Proofs.Ythpinbmimgojnaa
open Go.RowKit

theorem iv_dropX (l : List Int) (k : Nat) : (iv l).drop k = iv (l.drop k) := by simp [iv, List.map_drop]
theorem iv_takeX (l : List Int) (k : Nat) : (iv l).take k = iv (l.take k) := by simp [iv, List.map_take]

set_option maxRecDepth 100000 in
theorem size_int (w : World) : (sizeOf (Try.prog.elem 25)).run Try.prog w = .ok 1 w := by
  rfl

set_option maxRecDepth 100000 in
/-- l[lo:]. -/
theorem slice_from (A : Option Addr) (n c lo : Nat) (l : List Int) (w0 : World) (h : Row w0 A (iv l)) (hn : l.length = n) (hc : n ≤ c) (hlo : lo ≤ n) :
    ∃ A' c', (∀ w, (Instr.sliceAt 25 (.slice A n c) (some (.int .i64 (lo : Int))) none none).run Try.prog w = .ok (.slice A' (n - lo) c') w) ∧ n - lo ≤ c' ∧ Row w0 A' (iv (l.drop lo)) := by
  refine ⟨if c = lo then A else A.map (·.add (lo * 1)), c - lo, fun w => ?_, by omega, ?_⟩
  · rw [run_sliceAt_slice w 25 _ _ _ _ Try.underlying25, run_slice_l w 25 A n c Try.underlying25 .i64 (lo : Int) (by omega) (by omega), size_int]
    simp [Result.andThen, sliced]
  · have := h.cut lo n c hlo (by rw [iv_length]; omega) (by rw [iv_length]; omega)
    rw [iv_dropX, List.take_of_length_le (by rw [iv_length, List.length_drop]; omega)] at this
    rw [Nat.mul_one]
    exact this
set_option maxRecDepth 100000 in
/-- l[lo:], and what it is where there is none. -/
theorem slice_fromN (A : Option Addr) (n c lo : Nat) (l : List Int) (w0 : World) (h : Row w0 A (iv l)) (hn : l.length = n) (hc : n ≤ c) (hlo : lo ≤ n) (hnil : A = none → c = 0) :
    ∃ A' c', (∀ w, (Instr.sliceAt 25 (.slice A n c) (some (.int .i64 (lo : Int))) none none).run Try.prog w = .ok (.slice A' (n - lo) c') w) ∧ n - lo ≤ c' ∧ Row w0 A' (iv (l.drop lo)) ∧ (A' = none → c' = 0) := by
  refine ⟨if c = lo then A else A.map (·.add (lo * 1)), c - lo, fun w => ?_, by omega, ?_, fun e => ?_⟩
  · rw [run_sliceAt_slice w 25 _ _ _ _ Try.underlying25, run_slice_l w 25 A n c Try.underlying25 .i64 (lo : Int) (by omega) (by omega), size_int]
    simp [Result.andThen, sliced]
  · have := h.cut lo n c hlo (by rw [iv_length]; omega) (by rw [iv_length]; omega)
    rw [iv_dropX, List.take_of_length_le (by rw [iv_length, List.length_drop]; omega)] at this
    rw [Nat.mul_one]
    exact this
  · by_cases g : c = lo
    · omega
    · rw [if_neg g] at e
      cases A with
      | none => have := hnil rfl; omega
      | some a => cases e
set_option maxRecDepth 100000 in
/-- l[:hi]. -/
theorem slice_to (A : Option Addr) (n c hi : Nat) (l : List Int) (w0 : World) (h : Row w0 A (iv l)) (hhi : hi ≤ c) :
    (∀ w, (Instr.sliceAt 25 (.slice A n c) none (some (.int .i64 (hi : Int))) none).run Try.prog w = .ok (.slice A hi c) w) ∧ Row w0 A (iv (l.take hi)) := by
  refine ⟨fun w => ?_, ?_⟩
  · rw [run_sliceAt_slice w 25 _ _ _ _ Try.underlying25, run_slice_h w 25 A n c Try.underlying25 .i64 (hi : Int) (by omega) (by omega), size_int]
    cases A <;> simp [Result.andThen, sliced, Addr.add]
  · rw [← iv_takeX]
    exact h.take hi
set_option maxRecDepth 100000 in
/-- l[lo:lo+k]. -/
theorem slice_mid (A : Option Addr) (n c lo k : Nat) (l : List Int) (w0 : World) (h : Row w0 A (iv l)) (hn : l.length = n) (hc : n ≤ c) (hlo : lo + k ≤ n) :
    ∃ A' c', (∀ w, (Instr.sliceAt 25 (.slice A n c) (some (.int .i64 (lo : Int))) (some (.int .i64 ((lo : Int) + (k : Int)))) none).run Try.prog w = .ok (.slice A' k c') w) ∧ Row w0 A' (iv ((l.drop lo).take k)) := by
  refine ⟨if c = lo then A else A.map (·.add (lo * 1)), c - lo, fun w => ?_, ?_⟩
  · rw [run_sliceAt_slice w 25 _ _ _ _ Try.underlying25, run_slice_lh w 25 A n c Try.underlying25 .i64 .i64 (lo : Int) ((lo : Int) + (k : Int)) (by omega) (by omega) (by omega), size_int]
    have e : ((lo : Int) + (k : Int)).toNat = lo + k := by omega
    simp [Result.andThen, sliced, e]
  · have := h.cut lo (lo + k) c (by omega) (by rw [iv_length]; omega) (by rw [iv_length]; omega)
    rw [iv_dropX, iv_takeX, Nat.add_sub_cancel_left] at this
    rw [Nat.mul_one]
    exact this
set_option maxRecDepth 100000 in
/-- l[lo:] of a whole block. -/
theorem slice_fromG (G N lo : Nat) (h : lo < N) (w : World) : (Instr.sliceAt 25 (.slice (some ⟨G, 0, none⟩) N N) (some (.int .i64 (lo : Int))) none none).run Try.prog w = .ok (.slice (some ⟨G, lo, none⟩) (N - lo) (N - lo)) w := by
  rw [run_sliceAt_slice w 25 _ _ _ _ Try.underlying25, run_slice_l w 25 _ N N Try.underlying25 .i64 (lo : Int) (by omega) (by omega), size_int]
  have e : ¬ N = lo := by omega
  simp [Result.andThen, sliced, e, Addr.add]
  exact fun h => h.symm

end Go.Proofs.Ythpinbmimgojnaa

namespace Go.Proofs.Ythpinbmimgojnaa
open Go.RowKit

/-- A pair of places that are alike. -/
def okP (a b : List Int) (c : Pr) : Bool := decide (0 ≤ c.1 ∧ c.1 < (a.length : Int) ∧ 0 ≤ c.2 ∧ c.2 < (b.length : Int) ∧ a[c.1.toNat]? = b[c.2.toNat]?)
def rises : Option Pr → Pr → Bool
  | none, _ => true
  | some p, c => decide (p.1 < c.1 ∧ p.2 < c.2)
def goodGo (a b : List Int) : Option Pr → List Pr → Bool
  | _, [] => true
  | p, c :: l => okP a b c && rises p c && goodGo a b (some c) l
/-- The list is valid. -/
def goodB (a b : List Int) (l : List Pr) : Bool := goodGo a b none l
def prevAt (l : List Pr) : Nat → Option Pr
  | 0 => none
  | k + 1 => l[k]?
theorem good_step {a b : List Int} {l : List Pr} {k : Nat} {c : Pr} (h : l[k]? = some c) : goodGo a b (prevAt l k) (l.drop k) = (okP a b c && rises (prevAt l k) c && goodGo a b (prevAt l (k + 1)) (l.drop (k + 1))) := by
  obtain ⟨hk, e⟩ := List.getElem?_eq_some_iff.1 h
  rw [List.drop_eq_getElem_cons hk, e, goodGo]
  show _ = (okP a b c && rises (prevAt l k) c && goodGo a b l[k]? (l.drop (k + 1)))
  rw [h]
theorem good_end {a b : List Int} {l : List Pr} {k : Nat} (h : l.length ≤ k) : goodGo a b (prevAt l k) (l.drop k) = true := by
  rw [List.drop_eq_nil_of_le h, goodGo]
theorem okP_no {a b : List Int} {x y : Int} (h : ¬ (0 ≤ x ∧ x < (a.length : Int) ∧ 0 ≤ y ∧ y < (b.length : Int) ∧ a[x.toNat]? = b[y.toNat]?)) : okP a b (x, y) = false := by unfold okP; rw [decide_eq_false h]
theorem okP_yes {a b : List Int} {x y : Nat} {u : Int} (h1 : a[x]? = some u) (h2 : b[y]? = some u) : okP a b ((x : Int), (y : Int)) = true := by
  have g1 := (List.getElem?_eq_some_iff.1 h1).1
  have g2 := (List.getElem?_eq_some_iff.1 h2).1
  unfold okP
  rw [decide_eq_true]
  refine ⟨by simp, by simp; omega, by simp, by simp; omega, ?_⟩
  simp [h1, h2]

/-- The head of a round. -/
def GoodRel (a b : List Int) (l : List Pr) (w : World) (r : Bool) (i : Value) (wr : World) : Prop :=
  ∃ k : Nat, k ≤ l.length ∧ i = .int .i64 k ∧ Below w.heap.size w wr ∧ Hid (goodGo a b (prevAt l k) (l.drop k) = r)

set_option maxRecDepth 100000 in
set_option maxHeartbeats 3200000 in
theorem good_any (A B C : Option Addr) (n m N c d e : Nat) (a b : List Int) (l : List Pr) (w : World) (hn : a.length = n) (hm : b.length = m) (hN : l.length = N) (hbN : N ≤ 2147483648) (h1 : Row w A (iv a)) (h2 : Row w B (iv b)) (h3 : Row w C (pv l)) :
    Calls Try.prog 16 #[.slice A n c, .slice B m d, .slice C N e] w fun e w' => e = .returned (.bool (goodB a b l)) ∧ Below w.heap.size w w' := by
  obtain ⟨r, hr⟩ : ∃ r, goodB a b l = r := ⟨_, rfl⟩
  rw [hr]
  have HR := Lib.hid hr
  have HN := Lib.hid hn
  have HM := Lib.hid hm
  subst hN
  clear hr hn hm
  go_enter Try.func16, Try.ntmps16
  go_wp2_with fail
  go_loopw [7] (fun i wr => GoodRel a b l w r i wr) (fun i _ => l.length - (intOf i).toNat)
  case atStart => exact ⟨0, Nat.zero_le _, rfl, Below.refl _ _, HR.out⟩
  case round =>
    obtain ⟨k, hk, rfl, hbw, hkk⟩ := hrel
    by_cases hlt : k < l.length
    · have r1 := h1.below hbw
      have r2 := h2.below hbw
      have r3 := h3.below hbw
      obtain ⟨g, o, rfl, hc, hd⟩ := r3.pair hlt
      have HX : Hid (l[k]? = some l[k]) := List.getElem?_eq_getElem hlt
      generalize l[k] = z at *
      clear h1 h2 h3
      obtain ⟨z1, z2⟩ := z
      simp only at hc hd
      have HS := Lib.hid (hkk.out.symm.trans (good_step HX.out))
      have hsz := hbw.size
      have HBW := Lib.hid (fun o => hbw.alloc hsz o)
      clear hbw hkk
      by_cases c1 : z1 < 0
      · have hf : Hid (r = false) := by show _ = _; rw [HS.out, okP_no (by omega)]; rfl
        have t1 : decide (z1 < 0) = true := by simp; omega
        clear HS r3
        go_wp2_with fail
        go_quiet (fail)
        go_wp2_with fail
        go_ret
        exact ⟨ret_bool hf.out.symm, below_drewN (HBW.out _) _⟩
      by_cases c2 : z1 < (n : Int)
      case neg =>
        have hf : Hid (r = false) := by show _ = _; rw [HS.out, okP_no (by rw [HN.out]; omega)]; rfl
        have t1 : decide (z1 < 0) = false := by simp; omega
        have t2 : decide ((n : Int) ≤ z1) = true := by simp; omega
        clear HS r3
        go_wp2_with fail
        go_quiet (fail)
        go_wp2_with fail
        go_ret
        exact ⟨ret_bool hf.out.symm, below_drewN (HBW.out _) _⟩
      by_cases c3 : z2 < 0
      · have hf : Hid (r = false) := by show _ = _; rw [HS.out, okP_no (by omega)]; rfl
        have t1 : decide (z1 < 0) = false := by simp; omega
        have t2 : decide ((n : Int) ≤ z1) = false := by simp; omega
        have t3 : decide (z2 < 0) = true := by simp; omega
        clear HS r3
        go_wp2_with fail
        go_quiet (fail)
        go_wp2_with fail
        go_ret
        exact ⟨ret_bool hf.out.symm, below_drewN (HBW.out _) _⟩
      by_cases c4 : z2 < (m : Int)
      case neg =>
        have hf : Hid (r = false) := by show _ = _; rw [HS.out, okP_no (by rw [HM.out]; omega)]; rfl
        have t1 : decide (z1 < 0) = false := by simp; omega
        have t2 : decide ((n : Int) ≤ z1) = false := by simp; omega
        have t3 : decide (z2 < 0) = false := by simp; omega
        have t4 : decide ((m : Int) ≤ z2) = true := by simp; omega
        clear HS r3
        go_wp2_with fail
        go_quiet (fail)
        go_wp2_with fail
        go_ret
        exact ⟨ret_bool hf.out.symm, below_drewN (HBW.out _) _⟩
      obtain ⟨x, rfl⟩ := Int.eq_ofNat_of_zero_le (by omega : 0 ≤ z1)
      obtain ⟨y, rfl⟩ := Int.eq_ofNat_of_zero_le (by omega : 0 ≤ z2)
      have x1 : x < n := by omega
      have y1 : y < m := by omega
      obtain ⟨ga, oa, rfl, ha⟩ := r1.int (k := x) (by rw [HN.out]; exact x1)
      obtain ⟨gb, ob, rfl, hbb⟩ := r2.int (k := y) (by rw [HM.out]; exact y1)
      have HU : Hid (a[x]? = some (a[x]'(by rw [HN.out]; exact x1))) := List.getElem?_eq_getElem _
      have HV : Hid (b[y]? = some (b[y]'(by rw [HM.out]; exact y1))) := List.getElem?_eq_getElem _
      generalize a[x]'(by rw [HN.out]; exact x1) = u at *
      generalize b[y]'(by rw [HM.out]; exact y1) = v at *
      have ha' : ∀ o', (wr.alloc o').cell? ⟨ga, oa + x, none⟩ = some (.int .i64 u) := fun o' => (((Below.refl _ wr).alloc (Nat.le_refl _) o').cell (p := ⟨ga, oa + x, none⟩) (World.block_lt_of_cell? _ _ ha)).trans ha
      have hb2 : ∀ o', (wr.alloc o').cell? ⟨gb, ob + y, none⟩ = some (.int .i64 v) := fun o' => (((Below.refl _ wr).alloc (Nat.le_refl _) o').cell (p := ⟨gb, ob + y, none⟩) (World.block_lt_of_cell? _ _ hbb)).trans hbb
      have t3 : decide ((y : Int) < 0) = false := by simp
      have t1 : decide ((x : Int) < 0) = false := by simp
      have t2 : decide ((n : Int) ≤ (x : Int)) = false := by simp; omega
      have t4 : decide ((m : Int) ≤ (y : Int)) = false := by simp; omega
      have t2' : decide (n ≤ x) = false := by simp; omega
      have t4' : decide (m ≤ y) = false := by simp; omega
      clear c1 c2 c3 c4
      by_cases huv : u = v
      case neg =>
        have hf : Hid (r = false) := by
          show _ = _
          rw [HS.out, okP_no (by simp only [Int.toNat_natCast]; rw [HU.out, HV.out]; intro h; exact huv (Option.some.inj h.2.2.2.2))]
          rfl
        have t5 : (u != v) = true := by simpa using huv
        clear HS r3 ha hbb
        go_wp2_with fail
        go_quiet (fail)
        go_wp2_with fail
        go_ret
        exact ⟨ret_bool hf.out.symm, below_drewN (HBW.out _) _⟩
      subst huv
      have HS2 : Hid (r = (rises (prevAt l k) ((x : Int), (y : Int)) && goodGo a b (prevAt l (k + 1)) (l.drop (k + 1)))) := by
        show _ = _
        rw [HS.out, okP_yes HU.out HV.out, Bool.true_and]
      clear HS ha hbb
      cases k with
      | zero =>
        have R : Hid (goodGo a b (prevAt l 1) (l.drop 1) = r) := by
          show _ = _
          have h := HS2.out
          simp only [prevAt, rises, Bool.true_and] at h
          exact h.symm
        clear HS2 r3
        simp only [Nat.zero_mul, Nat.add_zero] at hc hd
        go_wp2_with fail
        go_quiet (fail)
        have qa := pair_new wr (.int .i64 (x : Int)) (.int .i64 (y : Int)) 50 0 _ rfl
        have qb := pair_new wr (.int .i64 (x : Int)) (.int .i64 (y : Int)) 50 1 _ rfl
        simp only [Addr.add_lit, Nat.add_zero, Nat.zero_add] at qa qb
        have wa : ((wr.alloc (.cells #[.int .i64 (x : Int), .int .i64 (y : Int)] 50)).drewN nq).cell? ⟨wr.heap.size, 0, none⟩ = some (.int .i64 (x : Int)) := qa
        have wb : ((wr.alloc (.cells #[.int .i64 (x : Int), .int .i64 (y : Int)] 50)).drewN nq).cell? ⟨wr.heap.size, 1, none⟩ = some (.int .i64 (y : Int)) := qb
        have HZ : Below w.heap.size w ((wr.alloc (.cells #[.int .i64 (x : Int), .int .i64 (y : Int)] 50)).drewN nq) := below_drewN (HBW.out _) nq
        clear qa qb ha' hb2 t1 t2 t3 t4 t2' t4'
        generalize (wr.alloc (.cells #[.int .i64 (x : Int), .int .i64 (y : Int)] 50)).drewN nq = wz at *
        generalize wr.heap.size = X at *
        go_wp2_with fail
        go_quiet (fail)
        have G : GoodRel a b l w r (.int .i64 (1 : Nat)) (wz.drewN nq) := ⟨1, by omega, rfl, below_drewN HZ _, R.out⟩
        go_wp2_with fail
        go_roundw
        case rel => first | exact G | ((repeat apply Exists.intro); exact ⟨G, rfl⟩)
        case measure => simp [intOf]; omega
      | succ k =>
        have hk' : k < l.length := by omega
        obtain ⟨_, _, eC, pc, pd⟩ := r3.pair hk'
        cases eC
        have HP : Hid (l[k]? = some l[k]) := List.getElem?_eq_getElem hk'
        have HR2 : Hid (r = (rises (some l[k]) ((x : Int), (y : Int)) && goodGo a b (prevAt l (k + 2)) (l.drop (k + 2)))) := by
          show _ = _
          rw [HS2.out]
          show (rises l[k]? _ && _) = _
          rw [HP.out]
        generalize l[k] = p at *
        obtain ⟨p1, p2⟩ := p
        simp only at pc pd
        clear HS2 r3 HP
        have ks : ((k + 1 : Nat) : Int) - 1 = (k : Int) := by omega
        go_wp2_with fail
        go_quiet (fail)
        have qa := pair_new wr (.int .i64 (x : Int)) (.int .i64 (y : Int)) 50 0 _ rfl
        have qb := pair_new wr (.int .i64 (x : Int)) (.int .i64 (y : Int)) 50 1 _ rfl
        simp only [Addr.add_lit, Nat.add_zero, Nat.zero_add] at qa qb
        have wa : ((wr.alloc (.cells #[.int .i64 (x : Int), .int .i64 (y : Int)] 50)).drewN nq).cell? ⟨wr.heap.size, 0, none⟩ = some (.int .i64 (x : Int)) := qa
        have wb : ((wr.alloc (.cells #[.int .i64 (x : Int), .int .i64 (y : Int)] 50)).drewN nq).cell? ⟨wr.heap.size, 1, none⟩ = some (.int .i64 (y : Int)) := qb
        have HZ : Below w.heap.size w ((wr.alloc (.cells #[.int .i64 (x : Int), .int .i64 (y : Int)] 50)).drewN nq) := below_drewN (HBW.out _) nq
        have wc1 : ((wr.alloc (.cells #[.int .i64 (x : Int), .int .i64 (y : Int)] 50)).drewN nq).cell? ⟨g, o + k * 2, none⟩ = some (.int .i64 p1) := (((Below.refl _ wr).alloc (Nat.le_refl _) _).cell (p := ⟨g, o + k * 2, none⟩) (World.block_lt_of_cell? _ _ pc)).trans pc
        have wd1 : ((wr.alloc (.cells #[.int .i64 (x : Int), .int .i64 (y : Int)] 50)).drewN nq).cell? ⟨g, o + k * 2 + 1, none⟩ = some (.int .i64 p2) := (((Below.refl _ wr).alloc (Nat.le_refl _) _).cell (p := ⟨g, o + k * 2 + 1, none⟩) (World.block_lt_of_cell? _ _ pd)).trans pd
        clear pc pd
        clear qa qb hc hd ha' hb2 t1 t2 t3 t4 t2' t4'
        generalize (wr.alloc (.cells #[.int .i64 (x : Int), .int .i64 (y : Int)] 50)).drewN nq = wz at *
        generalize wr.heap.size = X at *
        by_cases k1 : (x : Int) ≤ p1
        · have hf : Hid (r = false) := by
            show _ = _
            rw [HR2.out]
            simp only [rises]
            rw [decide_eq_false (by omega), Bool.false_and]
          have e1 : decide ((x : Int) ≤ p1) = true := by simpa using k1
          clear HR2 k1
          go_wp2_with fail
          go_quiet (fail)
          go_wp2_with fail
          go_ret
          exact ⟨ret_bool hf.out.symm, below_drewN HZ _⟩
        · have e1 : decide ((x : Int) ≤ p1) = false := by simp; omega
          by_cases k2 : (y : Int) ≤ p2
          · have hf : Hid (r = false) := by
              show _ = _
              rw [HR2.out]
              simp only [rises]
              rw [decide_eq_false (by omega), Bool.false_and]
            have e2 : decide ((y : Int) ≤ p2) = true := by simpa using k2
            clear HR2 k1 k2
            go_wp2_with fail
            go_quiet (fail)
            go_wp2_with fail
            go_ret
            exact ⟨ret_bool hf.out.symm, below_drewN HZ _⟩
          · have e2 : decide ((y : Int) ≤ p2) = false := by simp; omega
            have R : Hid (goodGo a b (prevAt l (k + 2)) (l.drop (k + 2)) = r) := by
              show _ = _
              rw [HR2.out]
              simp only [rises]
              rw [decide_eq_true (by omega), Bool.true_and]
            clear HR2 k1 k2
            go_wp2_with fail
            go_quiet (fail)
            have G : GoodRel a b l w r (.int .i64 (k + 2 : Nat)) (wz.drewN nq) := ⟨k + 2, by omega, rfl, below_drewN HZ _, R.out⟩
            go_wp2_with fail
            go_roundw
            case rel => first | exact G | ((repeat apply Exists.intro); exact ⟨G, rfl⟩)
            case measure => simp [intOf]; omega
    · have hf : Hid (r = true) := by show _ = _; rw [← hkk.out, good_end (by omega)]
      go_wp2_with fail
      go_ret
      exact ⟨ret_bool hf.out.symm, hbw⟩

end Go.Proofs.Ythpinbmimgojnaa

namespace Go.Proofs.Ythpinbmimgojnaa

def lastOr (o : Option Pr) : List Pr → Option Pr
  | [] => o
  | c :: l => lastOr (some c) l
theorem goodGo_snoc (a b : List Int) (c : Pr) : ∀ (l : List Pr) (o : Option Pr), goodGo a b o (l ++ [c]) = (goodGo a b o l && (okP a b c && rises (lastOr o l) c))
  | [], o => by simp [goodGo, lastOr]
  | x :: l, o => by
    rw [List.cons_append]
    show (okP a b x && rises o x && goodGo a b (some x) (l ++ [c])) = (okP a b x && rises o x && goodGo a b (some x) l && _)
    rw [goodGo_snoc a b c l (some x), Bool.and_assoc (okP a b x && rises o x)]
    rfl
theorem lastOr_snoc (c : Pr) : ∀ (l : List Pr) (o : Option Pr), lastOr o (l ++ [c]) = some c
  | [], _ => rfl
  | x :: l, _ => lastOr_snoc c l (some x)
/-- The pairs are good, and lie ahead of r and s. -/
def OkTo (a b : List Int) (l : List Pr) (r s : Nat) : Prop := goodB a b l = true ∧ ∀ p, lastOr none l = some p → p.1 < (r : Int) ∧ p.2 < (s : Int)
theorem ok_more {a b : List Int} {l : List Pr} {r s r' s' : Nat} (h : OkTo a b l r s) (hr : r ≤ r') (hs : s ≤ s') : OkTo a b l r' s' := ⟨h.1, fun p hp => by have := h.2 p hp; omega⟩
theorem ok_snoc {a b : List Int} {l : List Pr} {r s : Nat} {x : Int} (h : OkTo a b l r s) (h1 : a[r]? = some x) (h2 : b[s]? = some x) : OkTo a b (l ++ [((r : Int), (s : Int))]) (r + 1) (s + 1) := by
  refine ⟨?_, fun p hp => ?_⟩
  · unfold goodB
    rw [goodGo_snoc, okP_yes h1 h2, Bool.true_and, show goodGo a b none l = true from h.1, Bool.true_and]
    cases e : lastOr none l with
    | none => rfl
    | some p => exact decide_eq_true (h.2 p e)
  · rw [lastOr_snoc] at hp
    cases hp
    constructor <;> (show (_ : Int) < _; simp only; omega)

end Go.Proofs.Ythpinbmimgojnaa

namespace Go.Proofs.Ythpinbmimgojnaa

/-- x comes ahead of y. -/
def lessB : List Pr → List Pr → Bool
  | [], [] => false
  | [], _ :: _ => true
  | _ :: _, [] => false
  | p :: x, q :: y => if p.1 = q.1 then (if p.2 = q.2 then lessB x y else decide (p.2 < q.2)) else decide (p.1 < q.1)
theorem lessB_nil (y : List Pr) : lessB [] y = decide (0 < y.length) := by cases y <;> rfl
theorem lessB_nil' (x : List Pr) : lessB x [] = false := by cases x <;> rfl
theorem lessB_self : ∀ x : List Pr, lessB x x = false
  | [] => rfl
  | p :: x => by rw [lessB, if_pos rfl, if_pos rfl, lessB_self x]
theorem lessB_cons {p q : Pr} {x y : List Pr} : lessB (p :: x) (q :: y) = true ↔ p.1 < q.1 ∨ (p.1 = q.1 ∧ (p.2 < q.2 ∨ (p.2 = q.2 ∧ lessB x y = true))) := by
  rw [lessB]
  by_cases h1 : p.1 = q.1
  · rw [if_pos h1]
    by_cases h2 : p.2 = q.2
    · rw [if_pos h2]
      constructor
      · exact fun h => .inr ⟨h1, .inr ⟨h2, h⟩⟩
      · rintro (h | ⟨_, h | ⟨_, h⟩⟩)
        · omega
        · omega
        · exact h
    · rw [if_neg h2]
      simp only [decide_eq_true_eq]
      constructor
      · exact fun h => .inr ⟨h1, .inl h⟩
      · rintro (h | ⟨_, h | ⟨h, _⟩⟩)
        · omega
        · exact h
        · exact absurd h h2
  · rw [if_neg h1]
    simp only [decide_eq_true_eq]
    constructor
    · exact fun h => .inl h
    · rintro (h | ⟨h, _⟩)
      · exact h
      · exact absurd h h1
theorem lessB_trans : ∀ {x y z : List Pr}, lessB x y = true → lessB y z = true → lessB x z = true
  | [], y, [], h1, h2 => by rw [lessB_nil'] at h2; cases h2
  | [], y, r :: z, h1, h2 => rfl
  | p :: x, [], z, h1, h2 => by cases h1
  | p :: x, q :: y, [], h1, h2 => by cases h2
  | p :: x, q :: y, r :: z, h1, h2 => by
    rw [lessB_cons] at *
    rcases h1 with h1 | ⟨h1, h1' | ⟨h1', h1''⟩⟩ <;> rcases h2 with h2 | ⟨h2, h2' | ⟨h2', h2''⟩⟩
    · left; omega
    · left; omega
    · left; omega
    · left; omega
    · right; exact ⟨by omega, .inl (by omega)⟩
    · right; exact ⟨by omega, .inl (by omega)⟩
    · left; omega
    · right; exact ⟨by omega, .inl (by omega)⟩
    · right; exact ⟨by omega, .inr ⟨by omega, lessB_trans h1'' h2''⟩⟩
theorem lessB_asymm {x y : List Pr} (h : lessB x y = true) : lessB y x = false := by
  cases h' : lessB y x with
  | false => rfl
  | true => have := lessB_trans h h'; rw [lessB_self] at this; cases this
theorem lessB_total : ∀ {x y : List Pr}, lessB x y = false → lessB y x = false → x = y
  | [], [], _, _ => rfl
  | [], _ :: _, h, _ => by cases h
  | _ :: _, [], _, h => by cases h
  | p :: x, q :: y, h1, h2 => by
    have g1 : ¬ (p.1 < q.1 ∨ (p.1 = q.1 ∧ (p.2 < q.2 ∨ (p.2 = q.2 ∧ lessB x y = true)))) := by rw [← lessB_cons, h1]; simp
    have g2 : ¬ (q.1 < p.1 ∨ (q.1 = p.1 ∧ (q.2 < p.2 ∨ (q.2 = p.2 ∧ lessB y x = true)))) := by rw [← lessB_cons, h2]; simp
    have e1 : p.1 = q.1 := by
      have := fun h => g1 (.inl h)
      have := fun h => g2 (.inl h)
      omega
    have e2 : p.2 = q.2 := by
      have := fun h => g1 (.inr ⟨e1, .inl h⟩)
      have := fun h => g2 (.inr ⟨e1.symm, .inl h⟩)
      omega
    have e3 : lessB x y = false := by
      cases h : lessB x y with
      | false => rfl
      | true => exact absurd (.inr ⟨e1, .inr ⟨e2, h⟩⟩) g1
    have e4 : lessB y x = false := by
      cases h : lessB y x with
      | false => rfl
      | true => exact absurd (.inr ⟨e1.symm, .inr ⟨e2.symm, h⟩⟩) g2
    rw [lessB_total e3 e4]
    obtain ⟨p1, p2⟩ := p
    obtain ⟨q1, q2⟩ := q
    simp only at e1 e2
    rw [e1, e2]
/-- Of two just one comes first, or they are the same. -/
theorem lessB_one (x y : List Pr) : (lessB x y = true ∧ lessB y x = false ∧ decide (x = y) = false) ∨ (lessB x y = false ∧ lessB y x = true ∧ decide (x = y) = false) ∨ (lessB x y = false ∧ lessB y x = false ∧ decide (x = y) = true) := by
  cases h1 : lessB x y with
  | true =>
    left
    refine ⟨rfl, lessB_asymm h1, decide_eq_false fun e => ?_⟩
    rw [e, lessB_self] at h1
    cases h1
  | false =>
    right
    cases h2 : lessB y x with
    | true =>
      left
      refine ⟨rfl, rfl, decide_eq_false fun e => ?_⟩
      rw [e, lessB_self] at h2
      cases h2
    | false => exact .inr ⟨rfl, rfl, decide_eq_true (lessB_total h1 h2)⟩
/-! Step by step. -/
theorem less_step {x y : List Pr} {k : Nat} {p q : Pr} (h : x[k]? = some p) (h' : y[k]? = some q) : lessB (x.drop k) (y.drop k) = if p.1 = q.1 then (if p.2 = q.2 then lessB (x.drop (k + 1)) (y.drop (k + 1)) else decide (p.2 < q.2)) else decide (p.1 < q.1) := by
  obtain ⟨hk, e⟩ := List.getElem?_eq_some_iff.1 h
  obtain ⟨hk', e'⟩ := List.getElem?_eq_some_iff.1 h'
  rw [List.drop_eq_getElem_cons hk, List.drop_eq_getElem_cons hk', e, e', lessB]
theorem less_end {x y : List Pr} {k : Nat} (h : ¬ (k < x.length ∧ k < y.length)) (h1 : k ≤ x.length) (h2 : k ≤ y.length) : lessB (x.drop k) (y.drop k) = decide (x.length < y.length) := by
  rcases Nat.lt_or_ge k x.length with g | g
  · have g' : y.length ≤ k := by omega
    rw [List.drop_eq_nil_of_le g', lessB_nil', decide_eq_false (by omega)]
  · rw [List.drop_eq_nil_of_le g, lessB_nil, List.length_drop, decide_eq_decide]
    omega

/-- Exchanged; moved; what stands there. -/
def turnP (l : List Pr) : List Pr := l.map fun p => (p.2, p.1)
def movP (i j : Int) (p : Pr) : Pr := (RowKit.wrap64 (p.1 + i), RowKit.wrap64 (p.2 + j))
def moveP (l : List Pr) (i j : Int) : List Pr := l.map (movP i j)
def valAt (a : List Int) (p : Pr) : List Int := if 0 ≤ p.1 ∧ p.1 < (a.length : Int) then a[p.1.toNat]?.toList else []
def valsOf (a : List Int) (l : List Pr) : List Int := l.flatMap (valAt a)
theorem turnP_length (l : List Pr) : (turnP l).length = l.length := by simp [turnP]
theorem moveP_length (l : List Pr) (i j : Int) : (moveP l i j).length = l.length := by simp [moveP]
theorem turnP_turnP : ∀ l : List Pr, turnP (turnP l) = l
  | [] => rfl
  | p :: l => congrArg (p :: ·) (turnP_turnP l)
theorem turn_move (l : List Pr) (i j : Int) : turnP (moveP l i j) = moveP (turnP l) j i := by simp [turnP, moveP, movP]
theorem turn_step {l : List Pr} {k : Nat} {p : Pr} (h : l[k]? = some p) : turnP (l.take (k + 1)) = turnP (l.take k) ++ [(p.2, p.1)] := by
  obtain ⟨hk, e⟩ := List.getElem?_eq_some_iff.1 h
  rw [List.take_succ_eq_append_getElem hk, e]
  simp [turnP]
theorem move_step {l : List Pr} {k : Nat} {p : Pr} {i j : Int} (h : l[k]? = some p) : moveP (l.take (k + 1)) i j = moveP (l.take k) i j ++ [movP i j p] := by
  obtain ⟨hk, e⟩ := List.getElem?_eq_some_iff.1 h
  rw [List.take_succ_eq_append_getElem hk, e]
  simp [moveP]
theorem vals_step {a : List Int} {l : List Pr} {k : Nat} {p : Pr} (h : l[k]? = some p) : valsOf a (l.take (k + 1)) = valsOf a (l.take k) ++ valAt a p := by
  obtain ⟨hk, e⟩ := List.getElem?_eq_some_iff.1 h
  rw [List.take_succ_eq_append_getElem hk, e]
  simp [valsOf]
theorem valAt_in {a : List Int} {x : Nat} {y u : Int} (h : a[x]? = some u) : valAt a ((x : Int), y) = [u] := by
  have := (List.getElem?_eq_some_iff.1 h).1
  unfold valAt
  rw [if_pos ⟨by simp, by simp; omega⟩]
  simp [h]
theorem valAt_out {a : List Int} {x y : Int} (h : ¬ (0 ≤ x ∧ x < (a.length : Int))) : valAt a (x, y) = [] := by
  unfold valAt
  rw [if_neg h]
theorem valAt_le (a : List Int) (p : Pr) : (valAt a p).length ≤ 1 := by
  unfold valAt
  split
  · cases a[p.1.toNat]? <;> simp
  · simp
theorem vals_le (a : List Int) : ∀ l : List Pr, (valsOf a l).length ≤ l.length
  | [] => by simp [valsOf]
  | p :: l => by
    have h1 := vals_le a l
    have h2 := valAt_le a p
    unfold valsOf at *
    rw [List.flatMap_cons, List.length_append, List.length_cons]
    omega

/-! Good ones. -/
theorem okP_out {a b : List Int} {c : Pr} (h : okP a b c = true) : ∃ (x y : Nat) (u : Int), c = ((x : Int), (y : Int)) ∧ a[x]? = some u ∧ b[y]? = some u := by
  obtain ⟨c1, c2⟩ := c
  have h' : 0 ≤ c1 ∧ c1 < (a.length : Int) ∧ 0 ≤ c2 ∧ c2 < (b.length : Int) ∧ a[c1.toNat]? = b[c2.toNat]? := by simpa [okP] using h
  obtain ⟨h1, h2, h3, h4, h5⟩ := h'
  obtain ⟨x, rfl⟩ := Int.eq_ofNat_of_zero_le h1
  obtain ⟨y, rfl⟩ := Int.eq_ofNat_of_zero_le h3
  simp only [Int.toNat_natCast] at h5
  have hx : x < a.length := by omega
  refine ⟨x, y, a[x], rfl, List.getElem?_eq_getElem hx, ?_⟩
  rw [← h5]
  exact List.getElem?_eq_getElem hx
theorem okP_swap (a b : List Int) (p : Pr) : okP b a (p.2, p.1) = okP a b p := by
  unfold okP
  rw [decide_eq_decide]
  constructor
  · rintro ⟨h1, h2, h3, h4, h5⟩
    exact ⟨h3, h4, h1, h2, h5.symm⟩
  · rintro ⟨h1, h2, h3, h4, h5⟩
    exact ⟨h3, h4, h1, h2, h5.symm⟩
def swapO : Option Pr → Option Pr := Option.map fun p => (p.2, p.1)
theorem rises_swap (o : Option Pr) (p : Pr) : rises (swapO o) (p.2, p.1) = rises o p := by
  cases o with
  | none => rfl
  | some q => simp only [swapO, Option.map_some, rises]; rw [decide_eq_decide]; omega
theorem goodGo_turn (a b : List Int) : ∀ (o : Option Pr) (l : List Pr), goodGo b a (swapO o) (turnP l) = goodGo a b o l
  | _, [] => rfl
  | o, p :: l => by
    have h := goodGo_turn a b (some p) l
    show (okP b a (p.2, p.1) && rises (swapO o) (p.2, p.1) && goodGo b a (some (p.2, p.1)) (turnP l)) = (okP a b p && rises o p && goodGo a b (some p) l)
    rw [okP_swap, rises_swap, ← h]
    rfl
theorem good_turn (a b : List Int) (l : List Pr) : goodB b a (turnP l) = goodB a b l := goodGo_turn a b none l

/-- Moved, for lists with as much put ahead. -/
theorem goodGo_move {a b ra rb : List Int} {i j : Nat} (hi : ra.length = i) (hj : rb.length = j) (ha : a.length + i ≤ 1048576) (hb : b.length + j ≤ 1048576) : ∀ (o : Option Pr) (l : List Pr), (∀ q, o = some q → okP a b q = true) → goodGo a b o l = true → goodGo (ra ++ a) (rb ++ b) (o.map (movP i j)) (moveP l i j) = true
  | _, [], _, _ => rfl
  | o, p :: l, ho, h => by
    rw [goodGo, Bool.and_eq_true, Bool.and_eq_true] at h
    obtain ⟨⟨h1, h2⟩, h3⟩ := h
    have ih := goodGo_move hi hj ha hb (some p) l (fun q e => by cases e; exact h1) h3
    show (okP (ra ++ a) (rb ++ b) (movP i j p) && rises (o.map (movP i j)) (movP i j p) && goodGo (ra ++ a) (rb ++ b) (some (movP i j p)) (moveP l i j)) = true
    have mv : ∀ q, okP a b q = true → ∃ (x y : Nat) (u : Int), q = ((x : Int), (y : Int)) ∧ a[x]? = some u ∧ b[y]? = some u ∧ movP i j q = (((i + x : Nat) : Int), ((j + y : Nat) : Int)) := by
      intro q hq
      obtain ⟨x, y, u, rfl, hx, hy⟩ := okP_out hq
      have := (List.getElem?_eq_some_iff.1 hx).1
      have := (List.getElem?_eq_some_iff.1 hy).1
      refine ⟨x, y, u, rfl, hx, hy, ?_⟩
      unfold movP
      rw [IntWalk.wrap64_in _ (by simp only; omega), IntWalk.wrap64_in _ (by simp only; omega)]
      simp only [Prod.mk.injEq]
      omega
    obtain ⟨x, y, u, rfl, hx, hy, e⟩ := mv p h1
    have k1 : okP (ra ++ a) (rb ++ b) (movP i j ((x : Int), (y : Int))) = true := by
      rw [e]
      refine okP_yes (u := u) ?_ ?_
      · rw [List.getElem?_append_right (by omega), hi, Nat.add_sub_cancel_left]; exact hx
      · rw [List.getElem?_append_right (by omega), hj, Nat.add_sub_cancel_left]; exact hy
    have k2 : rises (o.map (movP i j)) (movP i j ((x : Int), (y : Int))) = true := by
      cases o with
      | none => rfl
      | some q =>
        obtain ⟨x', y', u', rfl, _, _, e'⟩ := mv q (ho q rfl)
        simp only [Option.map_some, rises, e, e'] at h2 ⊢
        simp only [decide_eq_true_eq] at h2 ⊢
        omega
    rw [k1, k2]
    exact ih
theorem good_move {a b ra rb : List Int} {i j : Nat} (hi : ra.length = i) (hj : rb.length = j) (ha : a.length + i ≤ 1048576) (hb : b.length + j ≤ 1048576) {l : List Pr} (h : goodB a b l = true) : goodB (ra ++ a) (rb ++ b) (moveP l i j) = true :=
  goodGo_move hi hj ha hb none l (fun _ e => by cases e) h

/-- What stands there, of good ones. -/
theorem goodGo_vals (a b : List Int) : ∀ (o : Option Pr) (l : List Pr), goodGo a b o l = true → valsOf a l = valsOf b (turnP l) ∧ (valsOf a l).length = l.length
  | _, [], _ => ⟨rfl, rfl⟩
  | o, p :: l, h => by
    rw [goodGo, Bool.and_eq_true, Bool.and_eq_true] at h
    obtain ⟨⟨h1, _⟩, h3⟩ := h
    obtain ⟨e1, e2⟩ := goodGo_vals a b (some p) l h3
    obtain ⟨x, y, u, rfl, hx, hy⟩ := okP_out h1
    have g1 : valsOf a (((x : Int), (y : Int)) :: l) = u :: valsOf a l := by
      show valAt a ((x : Int), (y : Int)) ++ valsOf a l = _
      rw [valAt_in hx]; rfl
    have g2 : valsOf b (turnP (((x : Int), (y : Int)) :: l)) = u :: valsOf b (turnP l) := by
      show valAt b ((y : Int), (x : Int)) ++ valsOf b (turnP l) = _
      rw [valAt_in hy]; rfl
    rw [g1, g2, e1]
    exact ⟨rfl, by rw [List.length_cons, List.length_cons, ← e1, e2]⟩
theorem goodGo_sub (a b : List Int) : ∀ (o : Option Pr) (l : List Pr) (n : Nat), goodGo a b o l = true → (∀ p ∈ l.head?, (n : Int) ≤ p.1) → (valsOf a l).Sublist (a.drop n)
  | _, [], _, _, _ => List.nil_sublist _
  | o, p :: l, n, h, hn => by
    rw [goodGo, Bool.and_eq_true, Bool.and_eq_true] at h
    obtain ⟨⟨h1, _⟩, h3⟩ := h
    obtain ⟨x, y, u, rfl, hx, hy⟩ := okP_out h1
    have hle : n ≤ x := by have := hn ((x : Int), (y : Int)) (by simp); simp only at this; omega
    have ih := goodGo_sub a b (some ((x : Int), (y : Int))) l (x + 1) h3 (by
      intro q hq
      cases l with
      | nil => simp at hq
      | cons r l =>
        simp at hq
        subst hq
        rw [goodGo, Bool.and_eq_true, Bool.and_eq_true] at h3
        have := h3.1.2
        simp only [rises, decide_eq_true_eq] at this
        omega)
    have g1 : valsOf a (((x : Int), (y : Int)) :: l) = u :: valsOf a l := by
      show valAt a ((x : Int), (y : Int)) ++ valsOf a l = _
      rw [valAt_in hx]; rfl
    rw [g1]
    have hxl := (List.getElem?_eq_some_iff.1 hx).1
    have hxe := (List.getElem?_eq_some_iff.1 hx).2
    have e : a.drop n = (a.drop n).take (x - n) ++ u :: a.drop (x + 1) := by
      have := (List.take_append_drop (x - n) (a.drop n)).symm
      rw [List.drop_drop, show n + (x - n) = x by omega, List.drop_eq_getElem_cons hxl, hxe] at this
      exact this
    rw [e]
    exact (ih.cons_cons u).trans (List.sublist_append_right _ _)
theorem goodGo_nonneg {a b : List Int} {o : Option Pr} {p : Pr} {l : List Pr} (h : goodGo a b o (p :: l) = true) : 0 ≤ p.1 ∧ 0 ≤ p.2 := by
  rw [goodGo, Bool.and_eq_true, Bool.and_eq_true] at h
  obtain ⟨x, y, u, rfl, _, _⟩ := okP_out h.1.1
  simp
theorem good_sub {a b : List Int} {l : List Pr} (h : goodB a b l = true) : (valsOf a l).Sublist a := by
  have := goodGo_sub a b none l 0 h (by
    intro p hp
    cases l with
    | nil => simp at hp
    | cons q l =>
      simp at hp
      subst hp
      exact (goodGo_nonneg h).1)
  simpa using this
theorem good_vals {a b : List Int} {l : List Pr} (h : goodB a b l = true) : valsOf a l = valsOf b (turnP l) ∧ (valsOf a l).length = l.length := goodGo_vals a b none l h
theorem good_sub' {a b : List Int} {l : List Pr} (h : goodB a b l = true) : (valsOf a l).Sublist b := by
  rw [(good_vals h).1]
  exact good_sub (a := b) (b := a) (by rw [good_turn]; exact h)

/-- The front pair of a walk that begins with (-1, -1). -/
def befP : Option Pr → Pr
  | none => (-1, -1)
  | some p => p
theorem ok_bef {a b : List Int} {o : Option Pr} {c : Pr} (h : -1 ≤ (befP o).1 ∧ -1 ≤ (befP o).2) : (okP a b c && rises o c) = decide ((befP o).1 < c.1 ∧ (befP o).2 < c.2 ∧ c.1 < (a.length : Int) ∧ c.2 < (b.length : Int) ∧ a[c.1.toNat]? = b[c.2.toNat]?) := by
  rw [Bool.eq_iff_iff, Bool.and_eq_true]
  unfold okP
  simp only [decide_eq_true_eq]
  cases o with
  | none =>
    show (_ ∧ true = true) ↔ ((-1 : Int) < _ ∧ (-1 : Int) < _ ∧ _)
    constructor
    · rintro ⟨⟨h1, h2, h3, h4, h5⟩, _⟩
      exact ⟨by omega, by omega, h2, h4, h5⟩
    · rintro ⟨h1, h2, h3, h4, h5⟩
      exact ⟨⟨by omega, h3, by omega, h4, h5⟩, rfl⟩
  | some p =>
    have e : rises (some p) c = true ↔ p.1 < c.1 ∧ p.2 < c.2 := by simp [rises]
    rw [e]
    have h : -1 ≤ p.1 ∧ -1 ≤ p.2 := h
    show _ ↔ (p.1 < _ ∧ p.2 < _ ∧ _)
    constructor
    · rintro ⟨⟨h1, h2, h3, h4, h5⟩, h6, h7⟩
      exact ⟨h6, h7, h2, h4, h5⟩
    · rintro ⟨h1, h2, h3, h4, h5⟩
      exact ⟨⟨by omega, h3, by omega, h4, h5⟩, h1, h2⟩

end Go.Proofs.Ythpinbmimgojnaa

namespace Go.Proofs.Ythpinbmimgojnaa

/-- Pairs further on. -/
def sh (i j : Nat) (l : List Pr) : List Pr := l.map fun p => (p.1 + (i : Int), p.2 + (j : Int))
theorem sh_nil (i j : Nat) : sh i j [] = [] := rfl
theorem sh_cons (i j : Nat) (p : Pr) (l : List Pr) : sh i j (p :: l) = (p.1 + (i : Int), p.2 + (j : Int)) :: sh i j l := rfl
theorem sh_append (i j : Nat) (l r : List Pr) : sh i j (l ++ r) = sh i j l ++ sh i j r := by simp [sh]
theorem sh_length (i j : Nat) (l : List Pr) : (sh i j l).length = l.length := by simp [sh]
theorem sh_drop (i j k : Nat) (l : List Pr) : (sh i j l).drop k = sh i j (l.drop k) := by simp [sh, List.map_drop]
theorem sh_zero : ∀ l : List Pr, sh 0 0 l = l
  | [] => rfl
  | p :: l => by rw [sh_cons, sh_zero l]; simp
theorem sh_sh (i j k m : Nat) : ∀ l : List Pr, sh i j (sh k m l) = sh (i + k) (j + m) l
  | [] => rfl
  | p :: l => by
    rw [sh_cons, sh_cons, sh_cons, sh_sh i j k m l]
    congr 1
    simp only [Prod.mk.injEq]
    omega
theorem sh_get {i j k : Nat} {l : List Pr} {p : Pr} (h : l[k]? = some p) : (sh i j l)[k]? = some (p.1 + (i : Int), p.2 + (j : Int)) := by
  unfold sh
  rw [List.getElem?_map, h]
  rfl
theorem lessB_sh (i j : Nat) : ∀ x y : List Pr, lessB (sh i j x) (sh i j y) = lessB x y
  | [], [] => rfl
  | [], _ :: _ => rfl
  | _ :: _, [] => rfl
  | p :: x, q :: y => by
    rw [sh_cons, sh_cons, lessB, lessB, lessB_sh i j x y]
    have e1 : (p.1 + (i : Int) = q.1 + (i : Int)) ↔ p.1 = q.1 := by omega
    have e2 : (p.2 + (j : Int) = q.2 + (j : Int)) ↔ p.2 = q.2 := by omega
    simp only [e1, e2, Int.add_lt_add_iff_right]
theorem lessB_app : ∀ {x y : List Pr} (s t : List Pr), x.length = y.length → lessB x y = true → lessB (x ++ s) (y ++ t) = true
  | [], [], _, _, _, h => by cases h
  | [], _ :: _, _, _, h, _ => by simp at h
  | _ :: _, [], _, _, h, _ => by simp at h
  | p :: x, q :: y, s, t, hl, h => by
    rw [List.cons_append, List.cons_append]
    rw [lessB_cons] at h ⊢
    rcases h with h | ⟨h, h' | ⟨h', h''⟩⟩
    · exact .inl h
    · exact .inr ⟨h, .inl h'⟩
    · exact .inr ⟨h, .inr ⟨h', lessB_app s t (by simpa using hl) h''⟩⟩
theorem lessB_app_left : ∀ (s : List Pr) {x y : List Pr}, lessB x y = true → lessB (s ++ x) (s ++ y) = true
  | [], _, _, h => h
  | p :: s, _, _, h => by
    rw [List.cons_append, List.cons_append, lessB_cons]
    exact .inr ⟨rfl, .inr ⟨rfl, lessB_app_left s h⟩⟩

/-- The first place of a number. -/
def at1 (x : Int) : List Int → Option Nat
  | [] => none
  | y :: b => if y = x then some 0 else (at1 x b).map (· + 1)
theorem at1_none {x : Int} : ∀ {b : List Int}, at1 x b = none → ∀ y : Nat, b[y]? ≠ some x
  | [], _, y, h => by simp at h
  | z :: b, h, y, hy => by
    rw [at1] at h
    by_cases e : z = x
    · rw [if_pos e] at h; cases h
    · rw [if_neg e] at h
      cases y with
      | zero => simp at hy; exact e hy
      | succ y => exact at1_none (by simpa using h) y (by simpa using hy)
theorem at1_some {x : Int} : ∀ {b : List Int} {k : Nat}, at1 x b = some k → b[k]? = some x ∧ ∀ y : Nat, b[y]? = some x → k ≤ y
  | [], _, h => by cases h
  | z :: b, k, h => by
    rw [at1] at h
    by_cases e : z = x
    · rw [if_pos e] at h
      cases h
      exact ⟨by simp [e], fun y _ => Nat.zero_le _⟩
    · rw [if_neg e] at h
      obtain ⟨j, hj, rfl⟩ := Option.map_eq_some_iff.1 h
      obtain ⟨h1, h2⟩ := at1_some hj
      refine ⟨by simpa using h1, fun y hy => ?_⟩
      cases y with
      | zero => simp at hy; exact absurd hy e
      | succ y => have := h2 y (by simpa using hy); omega
theorem at1_of {x : Int} {b : List Int} {k : Nat} (h : b[k]? = some x) (hk : ∀ y : Nat, b[y]? = some x → k ≤ y) : at1 x b = some k := by
  cases e : at1 x b with
  | none => exact absurd h (at1_none e k)
  | some j =>
    obtain ⟨h1, h2⟩ := at1_some e
    have := h2 k h
    have := hk j h1
    congr 1
    omega
theorem at1_no {x : Int} {b : List Int} (h : ∀ y : Nat, b[y]? ≠ some x) : at1 x b = none := by
  cases e : at1 x b with
  | none => rfl
  | some j => exact absurd (at1_some e).1 (h j)

/-- L, number by number of the first list. -/
theorem lcs_no {x : Int} (a : List Int) : ∀ {b : List Int}, at1 x b = none → lcs (x :: a) b = lcs a b
  | [], _ => by rw [lcs_nil_right, lcs_nil_right]
  | y :: b, h => by
    have hy := at1_none h
    have hne : x ≠ y := fun e => hy 0 (by simp [e])
    have h' : at1 x b = none := at1_no fun z hz => hy (z + 1) (by simpa using hz)
    rw [lcs_other hne, lcs_no a h']
    have := lcs_mono (List.Sublist.refl a) (List.sublist_cons_self y b)
    omega
theorem lcs_yes {x : Int} (a : List Int) : ∀ {b : List Int} {k : Nat}, at1 x b = some k → lcs (x :: a) b = max (lcs a b) (lcs a (b.drop (k + 1)) + 1)
  | [], _, h => by cases h
  | y :: b, k, h => by
    rw [at1] at h
    by_cases e : y = x
    · rw [if_pos e] at h
      cases h
      subst e
      rw [lcs_same]
      have := lcs_cons_le y b a
      rw [lcs_comm, lcs_comm b a] at this
      show _ = max _ (lcs a b + 1)
      omega
    · rw [if_neg e] at h
      obtain ⟨j, hj, rfl⟩ := Option.map_eq_some_iff.1 h
      rw [lcs_other (fun e' => e e'.symm), lcs_yes a hj]
      have := lcs_mono (List.Sublist.refl a) (List.sublist_cons_self y b)
      show _ = max _ (lcs a (b.drop (j + 1)) + 1)
      omega

/-! Good lists, from places on. -/
def Ga (a b : List Int) : Nat → Nat → List Pr → Prop
  | _, _, [] => True
  | i, j, p :: l => ∃ (x y : Nat) (u : Int), p = ((x : Int), (y : Int)) ∧ i ≤ x ∧ j ≤ y ∧ a[x]? = some u ∧ b[y]? = some u ∧ Ga a b (x + 1) (y + 1) l
theorem ga_mono {a b : List Int} {i j i' j' : Nat} : ∀ {l : List Pr}, Ga a b i j l → i' ≤ i → j' ≤ j → Ga a b i' j' l
  | [], _, _, _ => trivial
  | _ :: _, ⟨x, y, u, e, h1, h2, h⟩, k1, k2 => ⟨x, y, u, e, by omega, by omega, h⟩
theorem ga_of {a b : List Int} : ∀ {l : List Pr} {o : Option Pr} {i j : Nat}, (∀ x y : Nat, rises o ((x : Int), (y : Int)) = true → i ≤ x ∧ j ≤ y) → goodGo a b o l = true → Ga a b i j l
  | [], _, _, _, _, _ => trivial
  | p :: l, o, i, j, ho, h => by
    rw [goodGo, Bool.and_eq_true, Bool.and_eq_true] at h
    obtain ⟨⟨h1, h2⟩, h3⟩ := h
    obtain ⟨x, y, u, rfl, hx, hy⟩ := okP_out h1
    obtain ⟨g1, g2⟩ := ho x y h2
    refine ⟨x, y, u, rfl, g1, g2, hx, hy, ga_of (fun x' y' hr => ?_) h3⟩
    simp only [rises, decide_eq_true_eq] at hr
    omega
theorem of_ga {a b : List Int} : ∀ {l : List Pr} {o : Option Pr} {i j : Nat}, (∀ x y : Nat, i ≤ x → j ≤ y → rises o ((x : Int), (y : Int)) = true) → Ga a b i j l → goodGo a b o l = true
  | [], _, _, _, _, _ => rfl
  | _ :: l, o, i, j, ho, ⟨x, y, u, e, h1, h2, hx, hy, h⟩ => by
    subst e
    rw [goodGo, okP_yes hx hy, ho x y h1 h2, Bool.true_and, Bool.true_and]
    refine of_ga (fun x' y' g1 g2 => ?_) h
    simp only [rises, decide_eq_true_eq]
    omega
/-- Good lists. -/
def G (a b : List Int) (l : List Pr) : Prop := Ga a b 0 0 l
theorem good_iff {a b : List Int} {l : List Pr} : goodB a b l = true ↔ G a b l :=
  ⟨fun h => ga_of (fun _ _ _ => ⟨Nat.zero_le _, Nat.zero_le _⟩) h, fun h => of_ga (fun _ _ _ _ => rfl) h⟩
theorem ga_drop {a b : List Int} {s t : Nat} : ∀ {l : List Pr} {i j : Nat}, Ga a b (s + i) (t + j) l ↔ ∃ r, l = sh s t r ∧ Ga (a.drop s) (b.drop t) i j r
  | [], i, j => ⟨fun _ => ⟨[], rfl, trivial⟩, fun _ => trivial⟩
  | p :: l, i, j => by
    constructor
    · rintro ⟨x, y, u, rfl, h1, h2, hx, hy, h⟩
      obtain ⟨x', rfl⟩ := Nat.exists_eq_add_of_le (show s ≤ x by omega)
      obtain ⟨y', rfl⟩ := Nat.exists_eq_add_of_le (show t ≤ y by omega)
      obtain ⟨r, e, hr⟩ := ga_drop.1 (show Ga a b (s + (x' + 1)) (t + (y' + 1)) l from h)
      refine ⟨((x' : Int), (y' : Int)) :: r, ?_, x', y', u, rfl, by omega, by omega, by rw [List.getElem?_drop]; exact hx, by rw [List.getElem?_drop]; exact hy, hr⟩
      rw [sh_cons, ← e]
      congr 1
      simp only [Prod.mk.injEq]
      omega
    · rintro ⟨r, e, hr⟩
      cases r with
      | nil => cases e
      | cons q r =>
        obtain ⟨x, y, u, rfl, h1, h2, hx, hy, h⟩ := hr
        rw [sh_cons] at e
        injection e with e1 e2
        rw [List.getElem?_drop] at hx hy
        refine ⟨s + x, t + y, u, ?_, by omega, by omega, hx, hy, (ga_drop (i := x + 1) (j := y + 1)).2 ⟨r, e2, h⟩⟩
        rw [e1]
        simp only [Prod.mk.injEq]
        omega
theorem g_sh {a b : List Int} {s t : Nat} {r : List Pr} (h : G (a.drop s) (b.drop t) r) : Ga a b s t (sh s t r) := (ga_drop (i := 0) (j := 0)).2 ⟨r, rfl, h⟩
theorem g_skip {x : Int} {a b : List Int} {r : List Pr} (h : G a b r) : G (x :: a) b (sh 1 0 r) := ga_mono (g_sh (a := x :: a) (b := b) (s := 1) (t := 0) h) (by omega) (by omega)
theorem g_take {x : Int} {a b : List Int} {y : Nat} {r : List Pr} (hy : b[y]? = some x) (h : G a (b.drop (y + 1)) r) : G (x :: a) b ((0, (y : Int)) :: sh 1 (y + 1) r) := ⟨0, y, x, rfl, Nat.le_refl _, Nat.zero_le _, rfl, hy, g_sh (a := x :: a) h⟩
theorem g_cases {x : Int} {a b : List Int} {l : List Pr} (h : G (x :: a) b l) : (∃ r, l = sh 1 0 r ∧ G a b r) ∨ (∃ (y : Nat) (r : List Pr), b[y]? = some x ∧ l = (0, (y : Int)) :: sh 1 (y + 1) r ∧ G a (b.drop (y + 1)) r) := by
  cases l with
  | nil => exact .inl ⟨[], rfl, trivial⟩
  | cons p l =>
    obtain ⟨X, Y, u, rfl, h1, h2, hx, hy, hl⟩ := h
    cases X with
    | zero =>
      right
      obtain ⟨r, e, hr⟩ := (ga_drop (i := 0) (j := 0)).1 hl
      simp at hx
      subst hx
      exact ⟨Y, r, hy, by rw [e]; rfl, hr⟩
    | succ X =>
      left
      have : Ga (x :: a) b (1 + 0) (0 + 0) (((X + 1 : Nat), (Y : Int)) :: l) := ⟨X + 1, Y, u, rfl, by omega, by omega, hx, hy, hl⟩
      obtain ⟨r, e, hr⟩ := ga_drop.1 this
      exact ⟨r, e, hr⟩
theorem g_nil {b : List Int} {l : List Pr} (h : G [] b l) : l = [] := by
  cases l with
  | nil => rfl
  | cons p l =>
    obtain ⟨X, Y, u, rfl, h1, h2, hx, hy, hl⟩ := h
    simp at hx
theorem g_le {a b : List Int} {l : List Pr} (h : G a b l) : l.length ≤ lcs a b := by
  have h := good_iff.2 h
  rw [← (good_vals h).2]
  exact lcs_top (good_sub h) (good_sub' h)
theorem g_app {a b : List Int} {c j : Nat} : ∀ {l s : List Pr} {i k : Nat}, Ga (a.take c) (b.take j) i k l → Ga a b c j s → i ≤ c → k ≤ j → Ga a b i k (l ++ s)
  | [], s, i, k, _, hs, h1, h2 => ga_mono hs h1 h2
  | p :: l, s, i, k, ⟨x, y, u, e, h1, h2, hx, hy, hl⟩, hs, k1, k2 => by
    rw [List.getElem?_take] at hx hy
    split at hx
    · split at hy
      · exact ⟨x, y, u, e, h1, h2, hx, hy, g_app hl hs (by omega) (by omega)⟩
      · cases hy
    · cases hx
theorem g_join {a b : List Int} {c j : Nat} {l r : List Pr} (h : G (a.take c) (b.take j) l) (h' : G (a.drop c) (b.drop j) r) : G a b (l ++ sh c j r) := g_app h (g_sh h') (Nat.zero_le _) (Nat.zero_le _)

end Go.Proofs.Ythpinbmimgojnaa
