/-
  Words and contracts that the proof leans on.
-/
import Derived.Test.YtejpbjglfjhjkaaM9
import Derived.Test.YtejpbjglfjhjkaaM3
import Derived.Test.YtejpbjglfjhjkaaM4
import Derived.BigRegion
import Derived.Test.YtejpbjglfjhjkaaM7
namespace Go.Proofs.Ytejpbjglfjhjkaa
open Go.RowKit

theorem Try.infoInts1 : (Try.prog.info? 26).map (fun i => (i.zero, i.size, i.bytes)) = some (some (.slice none 0 0), 1, 24) := by kernel_rfl

/-- What Behind leaves. -/
def BhMade (a b : List Int) (n m : Nat) (w : World) (e : Ending) (w' : World) : Prop :=
  e = .returned (.slice (some ⟨w.heap.size, 0, none⟩) (n + 1) (n + 1)) ∧ Table a b n m w.heap.size w' ∧ Below w.heap.size w w'

/-- The head of a round of the outer loop. -/
def BhRel (a b : List Int) (n m : Nat) (w : World) (i : Value) (wr : World) : Prop :=
  (∃ r k, r + k = n ∧ i = .int .i64 (r : Int) ∧ Tbl a b n m w.heap.size k wr ∧ Below w.heap.size w wr) ∨ (i = .int .i64 (-1) ∧ Tbl a b n m w.heap.size (n + 1) wr ∧ Below w.heap.size w wr)
/-- The head of a round of the inner loop. -/
def BiRel (a b : List Int) (n m r k : Nat) (w : World) (j : Value) (wr : World) : Prop :=
  (∃ c, c < m ∧ j = .int .i64 (c : Int) ∧ Part a b n m w.heap.size r k (c + 1) wr ∧ Below w.heap.size w wr) ∨ (j = .int .i64 (-1) ∧ Part a b n m w.heap.size r k 0 wr ∧ Below w.heap.size w wr)

theorem bh_next {a b : List Int} {n m r k : Nat} {w wr : World} {x : Int} (hr : r + k = n) (hx : x = (r : Int) - 1) (h : Part a b n m w.heap.size r k 0 wr) (hb : Below w.heap.size w wr) : BhRel a b n m w (.int .i64 x) wr := by
  have h' := part_done h hr
  subst hx
  cases r with
  | zero => exact .inr ⟨by simp, by rw [show n = k by omega]; rw [show n = k by omega] at h'; exact h', hb⟩
  | succ r => exact .inl ⟨r, k + 1, by omega, by congr 1; omega, h', hb⟩
theorem bi_next {a b : List Int} {n m r k c : Nat} {w wr : World} {x v : Int} (hc : c < m) (hx : x = (c : Int) - 1) (hv : v = (lx a b r c : Nat)) (h : Part a b n m w.heap.size r k (c + 1) wr) (hb : Below w.heap.size w wr) : BiRel a b n m r k w (.int .i64 x) (wr.setCell ⟨w.heap.size + 1 + k, c, none⟩ (.int .i64 v)) := by
  have h' := part_set h hv
  have hb' : Below w.heap.size w (wr.setCell ⟨w.heap.size + 1 + k, c, none⟩ (.int .i64 v)) := hb.setCell (by show _ ≤ w.heap.size + 1 + k; omega) _
  subst hx
  cases c with
  | zero => exact .inr ⟨by simp, h', hb'⟩
  | succ c => exact .inl ⟨c, by omega, by congr 1; omega, h', hb'⟩
theorem bi_start {a b : List Int} {n m r k : Nat} {w wr : World} {x : Int} (hx : x = (m : Int) - 1) (h : Part a b n m w.heap.size r k m wr) (hb : Below w.heap.size w wr) : BiRel a b n m r k w (.int .i64 x) wr := by
  subst hx
  cases m with
  | zero => exact .inr ⟨by simp, h, hb⟩
  | succ m => exact .inl ⟨m, by omega, by congr 1; omega, h, hb⟩

theorem lx_le (a b : List Int) (r c : Nat) : lx a b r c ≤ a.length := Nat.le_trans (lcs_le_left _ _) (by rw [List.length_drop]; omega)
theorem part_drew {a b : List Int} {n m T r k c0 : Nat} {wr : World} (h : Part a b n m T r k c0 wr) : Part a b n m T r k c0 wr.drew := h

set_option maxRecDepth 100000 in
set_option maxHeartbeats 3200000 in
theorem behind_any (A B : Option Addr) (n m c d : Nat) (a b : List Int) (w : World) (hn : a.length = n) (hm : b.length = m) (hb : n ≤ 1048576) (hb' : m ≤ 1048576) (h1 : Row w A (iv a)) (h2 : Row w B (iv b)) :
    Calls Try.prog 27 #[.slice A n c, .slice B m d] w (BhMade a b n m w) := by
  obtain ⟨i0, hi, hz0, hz1, hz2⟩ := info_parts Try.infoInt
  obtain ⟨j0, ji, jz0, jz1, jz2⟩ := info_parts Try.infoInts1
  have HN := Lib.hid hn
  have HM := Lib.hid hm
  clear hn hm
  go_enter Try.func27, Try.ntmps27
  go_wp2_with (at_make; refine wpList_make_row _ rfl _ _ 40 rfl 26 j0 (.slice none 0 0) Try.underlying40 ji jz0 jz1 rfl .i64 .i64 (n + 1) rfl rfl (by rw [jz2]; omega) (by omega) ?_)
  have hT := tbl_start a b n m w
  have hB0 : Below w.heap.size w (w.alloc (.cells (madeCells #[.slice none 0 0] (n + 1)) 26)) := (Below.refl _ _).alloc (Nat.le_refl _) _
  generalize w.alloc (.cells (madeCells #[.slice none 0 0] (n + 1)) 26) = w0 at *
  go_wp2_with fail
  go_loopw [6] (fun i wr => BhRel a b n m w i wr) (fun i _ => (intOf i + 1).toNat)
  case atStart => exact .inl ⟨n, 0, rfl, rfl, hT, hB0⟩
  case round =>
    clear hT hB0
    rcases hrel with ⟨r, k, hrk, rfl, hT, hB⟩ | ⟨rfl, hT, hB⟩
    · have hsz : wr.heap.size = w.heap.size + 1 + k := hT.2.2
      have hrn : r < n + 1 := by omega
      have c0 : ∀ o, (wr.alloc o).cell? ⟨w.heap.size, r, none⟩ = some (TopF w.heap.size n m k r) := fun o => (hT.1.alloc o).cell hrn
      have f0 : ∀ o, (wr.alloc o).frozen? ⟨w.heap.size, r, none⟩ = false := fun o => (hT.1.alloc o).frozen r
      have hP := tbl_row hT hrk HM.out
      have hPB : Below w.heap.size w ((wr.alloc (.cells (madeCells #[.int .i64 0] (m + 1)) 3)).setCell ⟨w.heap.size, r, none⟩ (.slice (some ⟨wr.heap.size, 0, none⟩) (m + 1) (m + 1))) := (hB.alloc (by omega) _).setCell (Nat.le_refl _) _
      rw [hsz] at hP hPB
      clear hT hB
      go_wp2_with (at_make; refine wpList_make_row _ rfl _ _ 26 rfl 3 i0 (.int .i64 0) Try.underlying26 hi hz0 hz1 rfl .i64 .i64 (m + 1) rfl rfl (by rw [hz2]; omega) (by omega) ?_)
      go_wp2_with fail
      clear c0 f0
      generalize World.setCell _ _ _ = wz at *
      go_loopw [7] (fun j wx => BiRel a b n m r k w j wx) (fun j _ => (intOf j + 1).toNat)
      case atStart => exact bi_start (by omega) hP hPB
      case round =>
        clear hP hPB
        rcases hrel with ⟨cc, hcc, rfl, hP, hPB⟩ | ⟨rfl, hP, hPB⟩
        · by_cases hr : r < n
          · obtain ⟨g, o, rfl, hc⟩ := (h1.below hPB).int (k := r) (by rw [HN.out]; exact hr)
            obtain ⟨g', o', rfl, hd⟩ := (h2.below hPB).int (k := cc) (by rw [HM.out]; exact hcc)
            have HX : Hid (a[r]? = some (a[r]'(by rw [HN.out]; exact hr))) := List.getElem?_eq_getElem _
            have HY : Hid (b[cc]? = some (b[cc]'(by rw [HM.out]; exact hcc))) := List.getElem?_eq_getElem _
            generalize a[r]'(by rw [HN.out]; exact hr) = x at *
            generalize b[cc]'(by rw [HM.out]; exact hcc) = y at *
            clear h1 h2
            obtain ⟨k', rfl⟩ : ∃ k', k = k' + 1 := ⟨k - 1, by omega⟩
            have lz := lx_le a b (r + 1) (cc + 1)
            have l1 := lx_le a b (r + 1) cc
            have l2 := lx_le a b r (cc + 1)
            rw [HN.out] at lz l1 l2
            by_cases heq : x = y
            · subst heq
              have HV := Lib.hid (lx_same HX.out HY.out)
              go_wp2_with fail
              go_quiet (fail)
              have hP1 : Part a b n m w.heap.size r (k' + 1) (cc + 1) (wr.drewN nq) := hP
              have hPB1 : Below w.heap.size w (wr.drewN nq) := below_drewN hPB nq
              clear hP hPB hc hd
              generalize wr.drewN nq = wy at *
              have t1 := part_top hP1 (i := r) (by omega) (by omega)
              rw [show n - r = k' + 1 by omega] at t1
              have t2 := part_top hP1 (i := r + 1) (by omega) (by omega)
              rw [show n - (r + 1) = k' by omega] at t2
              have t3 := part_old hP1 (i := r + 1) (j := cc + 1) (by omega) (by omega) (by omega)
              rw [show n - (r + 1) = k' by omega] at t3
              have t4 := part_zero hP1 (j := cc) (by omega) (by omega)
              have t5 := part_frozen hP1 cc
              generalize lx a b (r + 1) (cc + 1) = Z at *
              go_wp2_with fail
              go_region
              go_wp2_with fail
              go_roundw
              case rel => exact bi_next hcc (by omega) (by have := HV.out; omega) (part_drew hP1) (Below.drew hPB1)
              case measure => simp [intOf]
            · have hz : (x == y) = false := by simpa using heq
              have HV := Lib.hid (lx_other HX.out HY.out heq)
              clear heq
              by_cases hXY : lx a b (r + 1) cc < lx a b r (cc + 1)
              · go_wp2_with fail
                go_quiet (fail)
                have hP1 : Part a b n m w.heap.size r (k' + 1) (cc + 1) (wr.drewN nq) := hP
                have hPB1 : Below w.heap.size w (wr.drewN nq) := below_drewN hPB nq
                clear hP hPB hc hd
                generalize wr.drewN nq = wy at *
                have t1 := part_top hP1 (i := r) (by omega) (by omega)
                rw [show n - r = k' + 1 by omega] at t1
                have t2 := part_top hP1 (i := r + 1) (by omega) (by omega)
                rw [show n - (r + 1) = k' by omega] at t2
                have t3 := part_old hP1 (i := r + 1) (j := cc) (by omega) (by omega) (by omega)
                rw [show n - (r + 1) = k' by omega] at t3
                have t4 := part_zero hP1 (j := cc) (by omega) (by omega)
                have t5 := part_frozen hP1 cc
                have t6 := part_new hP1 (j := cc + 1) (by omega) (by omega)
                generalize lx a b (r + 1) cc = X at *
                generalize lx a b r (cc + 1) = Y at *
                go_wp2_with fail
                go_region
                go_wp2_with fail
                go_roundw
                case rel => exact bi_next hcc (by omega) (by have := HV.out; omega) (part_drew hP1) (Below.drew hPB1)
                case measure => simp [intOf]
              · go_wp2_with fail
                go_quiet (fail)
                have hP1 : Part a b n m w.heap.size r (k' + 1) (cc + 1) (wr.drewN nq) := hP
                have hPB1 : Below w.heap.size w (wr.drewN nq) := below_drewN hPB nq
                clear hP hPB hc hd
                generalize wr.drewN nq = wy at *
                have t1 := part_top hP1 (i := r) (by omega) (by omega)
                rw [show n - r = k' + 1 by omega] at t1
                have t2 := part_top hP1 (i := r + 1) (by omega) (by omega)
                rw [show n - (r + 1) = k' by omega] at t2
                have t3 := part_old hP1 (i := r + 1) (j := cc) (by omega) (by omega) (by omega)
                rw [show n - (r + 1) = k' by omega] at t3
                have t4 := part_zero hP1 (j := cc) (by omega) (by omega)
                have t5 := part_frozen hP1 cc
                have t6 := part_new hP1 (j := cc + 1) (by omega) (by omega)
                generalize lx a b (r + 1) cc = X at *
                generalize lx a b r (cc + 1) = Y at *
                go_wp2_with fail
                go_region
                go_wp2_with fail
                go_roundw
                case rel => exact bi_next hcc (by omega) (by have := HV.out; omega) (part_drew hP1) (Below.drew hPB1)
                case measure => simp [intOf]
          · have hPL := part_last hP (by rw [HN.out]; omega)
            clear hP
            go_wp2_with fail
            go_roundw
            case rel => first | exact bh_next hrk (by omega) hPL hPB | ((repeat apply Exists.intro); exact ⟨bh_next hrk (by omega) hPL hPB, rfl⟩)
            case measure => simp [intOf]
        · by_cases hr : r < n
          · go_wp2_with fail
            go_roundw
            case rel => first | exact bh_next hrk (by omega) hP hPB | ((repeat apply Exists.intro); exact ⟨bh_next hrk (by omega) hP hPB, rfl⟩)
            case measure => simp [intOf]
          · go_wp2_with fail
            go_roundw
            case rel => first | exact bh_next hrk (by omega) hP hPB | ((repeat apply Exists.intro); exact ⟨bh_next hrk (by omega) hP hPB, rfl⟩)
            case measure => simp [intOf]
    · have HF : Hid (BhMade a b n m w (.returned (.slice (some ⟨w.heap.size, 0, none⟩) (n + 1) (n + 1))) wr) := ⟨rfl, tbl_table hT, hB⟩
      clear hT hB
      go_wp2_with fail
      go_ret
      exact HF.out

end Go.Proofs.Ytejpbjglfjhjkaa

namespace Go.Proofs.Ytejpbjglfjhjkaa
open Go.RowKit

theorem lx_lcs (a b : List Int) : lx a b 0 0 = lcs a b := by simp [lx]

end Go.Proofs.Ytejpbjglfjhjkaa

namespace Go.Proofs.Ytejpbjglfjhjkaa
open Go.RowKit

/-- x, y is alike, and behind it there are L more. -/
def Pz (a b : List Int) (L x y : Nat) : Prop := ∃ v, a[x]? = some v ∧ b[y]? = some v ∧ lx a b (x + 1) (y + 1) = L
/-- The first one from i, j on. -/
def First (a b : List Int) (i j L x y : Nat) : Prop := i ≤ x ∧ j ≤ y ∧ Pz a b L x y ∧ ∀ x' y', i ≤ x' → j ≤ y' → Pz a b L x' y' → x < x' ∨ x = x' ∧ y ≤ y'
theorem Pz.lt {a b : List Int} {L x y : Nat} (h : Pz a b L x y) : x < a.length ∧ y < b.length := by
  obtain ⟨v, h1, h2, _⟩ := h
  exact ⟨(List.getElem?_eq_some_iff.1 h1).1, (List.getElem?_eq_some_iff.1 h2).1⟩

/-- What first leaves. -/
def FirstMade (a b : List Int) (i j L : Nat) (w : World) (e : Ending) (w' : World) : Prop := ∃ x y : Nat, e = .returned (.tuple #[.int .i64 (x : Int), .int .i64 (y : Int)]) ∧ First a b i j L x y ∧ ∃ q, w' = w.drewN q

def No (a b : List Int) (i j L k : Nat) : Prop := ∀ x' y', i ≤ x' → x' < k → j ≤ y' → ¬ Pz a b L x' y'
def NoIn (a b : List Int) (j L x k : Nat) : Prop := ∀ y', j ≤ y' → y' < k → ¬ Pz a b L x y'
theorem no_next {a b : List Int} {i j L x k : Nat} (h : No a b i j L x) (h' : NoIn a b j L x k) (hk : b.length ≤ k) : No a b i j L (x + 1) := fun x' y' g1 g2 g3 hp => by
  by_cases e : x' = x
  · subst e
    exact h' y' g3 (by have := hp.lt; omega) hp
  · exact h x' y' g1 (by omega) g3 hp
theorem noIn_next {a b : List Int} {j L x k : Nat} (h : NoIn a b j L x k) (hn : ¬ Pz a b L x k) : NoIn a b j L x (k + 1) := fun y' g1 g2 hp => by
  by_cases e : y' = k
  · subst e
    exact hn hp
  · exact h y' g1 (by omega) hp
theorem first_here {a b : List Int} {i j L x y : Nat} (h1 : i ≤ x) (h2 : j ≤ y) (h : No a b i j L x) (h' : NoIn a b j L x y) (hp : Pz a b L x y) : First a b i j L x y := ⟨h1, h2, hp, fun x' y' g1 g2 hp' => by
  rcases Nat.lt_or_ge x x' with e | e
  · exact .inl e
  · right
    by_cases e' : x' = x
    · subst e'
      refine ⟨rfl, ?_⟩
      rcases Nat.lt_or_ge y' y with e2 | e2
      · exact absurd hp' (h' y' g2 e2)
      · exact e2
    · exact absurd hp' (h x' y' g1 (by omega) g2)⟩

/-- The heads of the rounds. -/
def OutRel (a b : List Int) (n i j L : Nat) (w : World) (v : Value) (wr : World) : Prop := ∃ k q : Nat, i ≤ k ∧ k ≤ n ∧ v = .int .i64 (k : Int) ∧ wr = w.drewN q ∧ Hid (No a b i j L k)
def InRel (a b : List Int) (m j L k : Nat) (w : World) (v : Value) (wr : World) : Prop := ∃ k' q' : Nat, j ≤ k' ∧ k' ≤ m ∧ v = .int .i64 (k' : Int) ∧ wr = w.drewN q' ∧ Hid (NoIn a b j L k k')

set_option maxRecDepth 100000 in
set_option maxHeartbeats 3200000 in
theorem first_any (A B : Option Addr) (n m c d T i j L : Nat) (a b : List Int) (w : World) (hn : a.length = n) (hm : b.length = m) (hb : n ≤ 1048576) (hb' : m ≤ 1048576) (h1 : Row w A (iv a)) (h2 : Row w B (iv b)) (hT : Table a b n m T w) (hi : i ≤ n) (hj : j ≤ m) (hL : L ≤ 1048576) (hex : ∃ x y, i ≤ x ∧ j ≤ y ∧ Pz a b L x y) :
    Calls Try.prog 28 #[.slice A n c, .slice B m d, .slice (some ⟨T, 0, none⟩) (n + 1) (n + 1), .int .i64 (i : Int), .int .i64 (j : Int), .int .i64 ((L : Int) + 1)] w (FirstMade a b i j L w) := by
  have HN := Lib.hid hn
  have HM := Lib.hid hm
  have HE := Lib.hid hex
  clear hn hm hex
  go_enter Try.func28, Try.ntmps28
  go_wp2_with fail
  go_loopw [14] (fun v wr => OutRel a b n i j L w v wr) (fun v _ => n - (intOf v).toNat)
  case atStart => exact ⟨i, 0, Nat.le_refl _, hi, rfl, rfl, fun x' y' g1 g2 => by omega⟩
  case round =>
    obtain ⟨k, q, hik, hkn, rfl, hq, hno⟩ := hrel
    by_cases hlt : k < n
    · have r1 : Row wr A (iv a) := by rw [hq]; exact h1
      have r2 : Row wr B (iv b) := by rw [hq]; exact h2
      have rT : Table a b n m T wr := by rw [hq]; exact hT
      have HQ := Lib.hid hq
      clear hq h1 h2 hT
      go_wp2_with fail
      go_loopw [15] (fun v wx => InRel a b m j L k wr v wx) (fun v _ => m - (intOf v).toNat)
      case atStart => exact ⟨j, 0, Nat.le_refl _, hj, rfl, rfl, fun y' g1 g2 => by omega⟩
      case round =>
        obtain ⟨k', q', hjk, hkm, rfl, hq', hni⟩ := hrel
        by_cases hlt' : k' < m
        · obtain ⟨g, o, rfl, hc⟩ := r1.int (k := k) (by rw [HN.out]; exact hlt)
          obtain ⟨g', o', rfl, hd⟩ := r2.int (k := k') (by rw [HM.out]; exact hlt')
          have HX : Hid (a[k]? = some (a[k]'(by rw [HN.out]; exact hlt))) := List.getElem?_eq_getElem _
          have HY : Hid (b[k']? = some (b[k']'(by rw [HM.out]; exact hlt'))) := List.getElem?_eq_getElem _
          generalize a[k]'(by rw [HN.out]; exact hlt) = x at *
          generalize b[k']'(by rw [HM.out]; exact hlt') = y at *
          obtain ⟨t1, t2⟩ := rT (k + 1) (by omega)
          have t3 := t2 (k' + 1) (by omega)
          clear r1 r2 rT t2
          have hz := lx_le a b (k + 1) (k' + 1)
          rw [HN.out] at hz
          have HP : Hid (x = y → lx a b (k + 1) (k' + 1) = L → Pz a b L k k') := fun e e' => ⟨x, HX.out, by rw [e]; exact HY.out, e'⟩
          have HP' : Hid (Pz a b L k k' → x = y ∧ lx a b (k + 1) (k' + 1) = L) := fun ⟨v, g1, g2, g3⟩ => by
            rw [HX.out] at g1
            rw [HY.out] at g2
            exact ⟨by rw [Option.some.inj g1, Option.some.inj g2], g3⟩
          generalize lx a b (k + 1) (k' + 1) = Z at *
          generalize T + 1 + (n - (k + 1)) = R at *
          subst hq'
          by_cases heq : x = y
          · subst heq
            by_cases hZ : Z = L
            · subst hZ
              have HF := Lib.hid (first_here hik hjk hno.out hni.out (HP.out rfl rfl))
              go_wp2_with fail
              go_quiet (fail)
              go_wp2_with fail
              go_ret2
              exact ⟨k, k', rfl, HF.out, _, by rw [HQ.out, World.drewN_drewN, World.drewN_drewN]⟩
            · have hzz : ((Z : Int) == (L : Int)) = false := by simp; omega
              have HK := Lib.hid (noIn_next hni.out fun hp => hZ (HP'.out hp).2)
              go_wp2_with fail
              go_quiet (fail)
              go_wp2_with fail
              go_roundw
              case rel => first | exact ⟨k' + 1, _, by omega, by omega, by go_num, rfl, HK.out⟩ | ((repeat apply Exists.intro); exact ⟨⟨k' + 1, _, by omega, by omega, by go_num, rfl, HK.out⟩, rfl⟩)
              case measure => simp [intOf]; omega
          · have hzz : (x == y) = false := by simpa using heq
            have HK := Lib.hid (noIn_next hni.out fun hp => heq (HP'.out hp).1)
            clear heq
            go_wp2_with fail
            go_quiet (fail)
            go_wp2_with fail
            go_roundw
            case rel => first | exact ⟨k' + 1, _, by omega, by omega, by go_num, rfl, HK.out⟩ | ((repeat apply Exists.intro); exact ⟨⟨k' + 1, _, by omega, by omega, by go_num, rfl, HK.out⟩, rfl⟩)
            case measure => simp [intOf]; omega
        · have HK := Lib.hid (no_next hno.out hni.out (by rw [HM.out]; omega))
          subst hq'
          have R : OutRel a b n i j L w (.int .i64 (k + 1 : Nat)) (wr.drewN q') := ⟨k + 1, q + q', by omega, by omega, rfl, by rw [HQ.out, World.drewN_drewN], HK.out⟩
          go_wp2_with fail
          go_roundw
          case rel => first | exact R | ((repeat apply Exists.intro); exact ⟨R, rfl⟩)
          case measure => simp [intOf]; omega
    · exfalso
      obtain ⟨x, y, g1, g2, hp⟩ := HE.out
      have hl := hp.lt
      rw [HN.out] at hl
      exact hno.out x y g1 (by omega) g2 hp

end Go.Proofs.Ytejpbjglfjhjkaa

namespace Go.Proofs.Ytejpbjglfjhjkaa
open Go.RowKit

/-- A beginning of the least list, and from where it goes on. -/
inductive Chain (a b : List Int) : List Pr → Nat → Nat → Prop
  | nil : Chain a b [] 0 0
  | snoc {l : List Pr} {i j L x y : Nat} : Chain a b l i j → lx a b i j = L + 1 → First a b i j L x y → Chain a b (l ++ [((x : Int), (y : Int))]) (x + 1) (y + 1)

theorem first_has {a b : List Int} {i j L : Nat} (h : lx a b i j = L + 1) : ∃ x y, i ≤ x ∧ j ≤ y ∧ Pz a b L x y := by
  obtain ⟨x, y, hx, hy, h1, h2, h3, h4⟩ := lcs_pair a b i j (by unfold lx at h; omega)
  refine ⟨x, y, h1, h2, a[x], List.getElem?_eq_getElem hx, ?_, ?_⟩
  · rw [List.getElem?_eq_getElem hy, h3]
  · unfold lx at h ⊢
    omega
theorem Chain.count {a b : List Int} {l : List Pr} {i j : Nat} (h : Chain a b l i j) : l.length + lx a b i j = lcs a b ∧ i ≤ a.length ∧ j ≤ b.length := by
  induction h with
  | nil => exact ⟨by rw [lx_lcs]; simp, Nat.zero_le _, Nat.zero_le _⟩
  | snoc _ h1 h2 ih =>
    obtain ⟨_, _, hp, _⟩ := h2
    have hl := hp.lt
    obtain ⟨_, _, _, h5⟩ := hp
    refine ⟨?_, by omega, by omega⟩
    simp only [List.length_append, List.length_singleton]
    omega

/-- What Least leaves. -/
def LeastMade (a b : List Int) (w : World) (e : Ending) (w' : World) : Prop :=
  ∃ v l i j, e = .returned v ∧ Chain a b l i j ∧ l.length = lcs a b ∧ w'.ownsRow w.heap.size 28 2 v l.length (pv l) ∧ Below w.heap.size w w'

/-- The head of a round. -/
def LeastRel (a b : List Int) (w w0 : World) (v i j left : Value) (wr : World) : Prop :=
  ∃ (l : List Pr) (x y : Nat), Chain a b l x y ∧ i = .int .i64 (x : Int) ∧ j = .int .i64 (y : Int) ∧ left = .int .i64 (lx a b x y : Nat) ∧ wr.ownsRow w0.heap.size 28 2 v l.length (pv l) ∧ Below w0.heap.size w0 wr ∧ Below w.heap.size w wr

set_option maxRecDepth 100000 in
set_option maxHeartbeats 3200000 in
theorem least_any (A B : Option Addr) (n m c d : Nat) (a b : List Int) (w : World) (hn : a.length = n) (hm : b.length = m) (hb : n ≤ 1048576) (hb' : m ≤ 1048576) (h1 : Row w A (iv a)) (h2 : Row w B (iv b)) :
    Calls Try.prog 17 #[.slice A n c, .slice B m d] w (LeastMade a b w) := by
  obtain ⟨i0, hi, hz0, hz1, hz2⟩ := info_parts Try.infoPair
  have HN := Lib.hid hn
  have HM := Lib.hid hm
  clear hn hm
  go_enter Try.func17, Try.ntmps17
  go_wp2_with fail
  refine (behind_any A B n m c d a b w HN.out HM.out hb hb' h1 h2).mono ?_
  rintro e w1 ⟨rfl, hT, hB⟩
  obtain ⟨t1, t2⟩ := hT 0 (Nat.zero_le _)
  have t3 := t2 0 (Nat.zero_le _)
  simp only [Nat.sub_zero] at t1 t3
  have r1 := h1.below hB
  have r2 := h2.below hB
  clear t2 h1 h2
  go_wp2_with fail
  go_loopw [6, 7, 8, 9] (fun v i j left wr => LeastRel a b w w1 v i j left wr) (fun _ _ _ left _ => (intOf left).toNat)
  case atStart => exact ⟨[], 0, 0, .nil, rfl, rfl, rfl, World.ownsRow_nil _ _ _ _, Below.refl _ _, hB⟩
  case round =>
    clear t1 t3
    obtain ⟨l, x, y, hch, rfl, rfl, rfl, hown, hb1, hbw⟩ := hrel
    obtain ⟨hcnt, hx, hy⟩ := hch.count
    have hll := lcs_le_left a b
    have hsz := hb1.size
    have hsw := hB.size
    cases hL : lx a b x y with
    | zero =>
      have HF : Hid (LeastMade a b w (.returned u6) wr) := ⟨u6, l, x, y, rfl, hch, by omega, own_lowerS hown hsw, hbw⟩
      clear hown
      go_wp2_with fail
      go_ret
      exact HF.out
    | succ L =>
      rw [HN.out] at hx hll
      rw [HM.out] at hy
      have R1 := Row.below (w := w1) r1 hb1
      have R2 := Row.below (w := w1) r2 hb1
      have RT := Table.below hT hb1
      have FC := Lib.hid (first_any A B n m c d w.heap.size x y L a b wr HN.out HM.out hb hb' R1 R2 RT hx hy (by omega) (first_has hL))
      have HL := Lib.hid hL
      have HC := Lib.hid hch
      clear R1 R2 RT hL hch
      go_wp2_with fail
      refine FC.out.mono ?_
      rintro e w2 ⟨x', y', rfl, hF, q, hq⟩
      have own2 : w2.ownsRow w1.heap.size 28 2 u6 l.length (pv l) := by rw [hq]; exact hown
      have hb2 : Below w1.heap.size w1 w2 := by rw [hq]; exact below_drewN hb1 q
      have hbw2 : Below w.heap.size w w2 := by rw [hq]; exact below_drewN hbw q
      have hsz2 := hb2.size
      have hcnt2 : l.length + (L + 1) = lcs a b := by have := HL.out; omega
      obtain ⟨g1, g2⟩ := hF.2.2.1.lt
      rw [HN.out] at g1
      rw [HM.out] at g2
      have HF := Lib.hid hF
      have HC' := Lib.hid (Chain.snoc HC.out HL.out hF)
      have HV : Hid (lx a b (x' + 1) (y' + 1) = L) := by obtain ⟨_, _, ⟨_, _, _, h⟩, _⟩ := hF; exact h
      clear hq hown hb1 hbw FC hF hsz HL HC hcnt
      go_wp2_with (at_builtin; refine wpList_append_own _ rfl (.tmp 34) (.tmp 38) 22 rfl w1.heap.size 28 i0 (.agg #[.int .i64 0, .int .i64 0]) 2 16 Try.underlying22 hi hz0 hz1 hz2 rfl (by decide) _ _ _ rfl (own2.alloc _) ⟨w2.heap.size, 0, none⟩ 1 1 [_, _] rfl rfl (pair_new _ _ _ _) (one_pair _ _) (by unfold maxLen; omega) (by omega) (by simp; omega) ?_)
      intro v' w3 own3 hg3 _
      have R : LeastRel a b w w1 v' (.int .i64 (x' + 1 : Nat)) (.int .i64 (y' + 1 : Nat)) (.int .i64 (L : Nat)) w3 := by
        refine ⟨_, x' + 1, y' + 1, HC'.out, rfl, rfl, by rw [HV.out], ?_, (hb2.alloc hsz2 _).grown hg3 (by simp; omega) (fun x hx => (own2.lt x hx).1), (hbw2.alloc (by omega) _).grown hg3 (by simp; omega) (fun x hx => Nat.le_trans hsw (own2.lt x hx).1)⟩
        rw [pv_append, pv_one, List.length_append]
        exact own3
      clear own3 hg3 own2 hb2 hbw2 HC' HF
      go_wp2_with fail
      go_roundw
      case rel => exact R
      case measure => simp [intOf]

end Go.Proofs.Ytejpbjglfjhjkaa

namespace Go.Proofs.Ytejpbjglfjhjkaa

/-- The least list. -/
def lst : List Int → List Int → List Pr
  | [], _ => []
  | x :: a, b =>
    match at1 x b with
    | none => sh 1 0 (lst a b)
    | some k => if (lst a b).length ≤ (lst a (b.drop (k + 1))).length + 1 then (0, (k : Int)) :: sh 1 (k + 1) (lst a (b.drop (k + 1))) else sh 1 0 (lst a b)
theorem lst_no {x : Int} {a b : List Int} (h : at1 x b = none) : lst (x :: a) b = sh 1 0 (lst a b) := by rw [lst, h]
theorem lst_take {x : Int} {a b : List Int} {k : Nat} (h : at1 x b = some k) (hl : (lst a b).length ≤ (lst a (b.drop (k + 1))).length + 1) : lst (x :: a) b = (0, (k : Int)) :: sh 1 (k + 1) (lst a (b.drop (k + 1))) := by rw [lst, h]; exact if_pos hl
theorem lst_skip {x : Int} {a b : List Int} {k : Nat} (h : at1 x b = some k) (hl : ¬ (lst a b).length ≤ (lst a (b.drop (k + 1))).length + 1) : lst (x :: a) b = sh 1 0 (lst a b) := by rw [lst, h]; exact if_neg hl
theorem lst_length : ∀ a b : List Int, (lst a b).length = lcs a b
  | [], b => by rw [lcs_nil_left]; rfl
  | x :: a, b => by
    cases h : at1 x b with
    | none => rw [lst_no h, sh_length, lst_length a b, lcs_no a h]
    | some k =>
      by_cases hl : (lst a b).length ≤ (lst a (b.drop (k + 1))).length + 1
      · rw [lst_take h hl, List.length_cons, sh_length, lcs_yes a h]
        rw [lst_length a b, lst_length a _] at hl
        rw [lst_length]
        omega
      · rw [lst_skip h hl, sh_length, lcs_yes a h]
        rw [lst_length a b, lst_length a _] at hl
        rw [lst_length]
        omega

/-- A list is the least of the longest ones. -/
def Lea (a b : List Int) (l : List Pr) : Prop := G a b l ∧ l.length = lcs a b ∧ ∀ l', G a b l' → l'.length = lcs a b → lessB l' l = false
theorem Lea.unique {a b : List Int} {l l' : List Pr} (h : Lea a b l) (h' : Lea a b l') : l = l' := lessB_total (h'.2.2 l h.1 h.2.1) (h.2.2 l' h'.1 h'.2.1)
theorem lst_lea : ∀ a b : List Int, Lea a b (lst a b)
  | [], b => ⟨trivial, by rw [lcs_nil_left]; rfl, fun l' h _ => by rw [g_nil h]; rfl⟩
  | x :: a, b => by
    obtain ⟨g1, g2, g3⟩ := lst_lea a b
    have hlen := lst_length (x :: a) b
    cases h : at1 x b with
    | none =>
      rw [lst_no h] at hlen ⊢
      refine ⟨g_skip g1, hlen, fun l' hl' hn => ?_⟩
      rcases g_cases hl' with ⟨r, rfl, hr⟩ | ⟨y, r, hy, _⟩
      · rw [lessB_sh]
        rw [sh_length, lcs_no a h] at hn
        exact g3 r hr hn
      · exact absurd hy (at1_none h y)
    | some k =>
      obtain ⟨a1, a2⟩ := at1_some h
      obtain ⟨k1, k2, k3⟩ := lst_lea a (b.drop (k + 1))
      by_cases hl : (lst a b).length ≤ (lst a (b.drop (k + 1))).length + 1
      · rw [lst_take h hl] at hlen ⊢
        refine ⟨g_take a1 k1, hlen, fun l' hl' hn => ?_⟩
        rw [Bool.eq_false_iff, Ne]
        intro hless
        rcases g_cases hl' with ⟨r, rfl, hr⟩ | ⟨y, r, hy, rfl, hr⟩
        · cases r with
          | nil =>
            rw [← hlen] at hn
            simp [sh] at hn
          | cons p r =>
            obtain ⟨X, Y, u, rfl, _⟩ := hr
            rw [sh_cons, lessB_cons] at hless
            simp only at hless
            omega
        · have hy' := a2 y hy
          rw [lessB_cons] at hless
          simp only at hless
          rcases hless with hless | ⟨_, hless | ⟨e, hless⟩⟩
          · omega
          · omega
          · obtain rfl : y = k := by omega
            rw [lessB_sh] at hless
            have hn2 : r.length = lcs a (b.drop (y + 1)) := by
              rw [← hlen] at hn
              simp only [List.length_cons, sh_length] at hn
              rw [← k2]
              omega
            rw [k3 r hr hn2] at hless
            cases hless
      · rw [lst_skip h hl] at hlen ⊢
        refine ⟨g_skip g1, hlen, fun l' hl' hn => ?_⟩
        rcases g_cases hl' with ⟨r, rfl, hr⟩ | ⟨y, r, hy, rfl, hr⟩
        · rw [lessB_sh]
          rw [← hlen, sh_length, sh_length, g2] at hn
          exact g3 r hr hn
        · exfalso
          have hy' := a2 y hy
          have h1 := g_le hr
          have h2 : lcs a (b.drop (y + 1)) ≤ lcs a (b.drop (k + 1)) := lcs_mono (List.Sublist.refl _) (by
            rw [show y + 1 = (k + 1) + (y - k) by omega, ← List.drop_drop]
            exact List.drop_sublist _ _)
          rw [← hlen, sh_length] at hn
          simp only [List.length_cons, sh_length] at hn
          rw [k2] at hl
          omega
theorem lst_of {a b : List Int} {l : List Pr} (h : Lea a b l) : l = lst a b := h.unique (lst_lea a b)

/-- Where the second list is parted when the first one is. -/
def spl : List Int → List Int → Nat → Nat
  | _, _, 0 => 0
  | [], _, _ + 1 => 0
  | x :: a, b, c + 1 =>
    match at1 x b with
    | none => spl a b c
    | some k => if (lst a b).length ≤ (lst a (b.drop (k + 1))).length + 1 then k + 1 + spl a (b.drop (k + 1)) c else spl a b c
theorem spl_zero (a b : List Int) : spl a b 0 = 0 := by cases a <;> rfl
theorem spl_no {x : Int} {a b : List Int} {c : Nat} (h : at1 x b = none) : spl (x :: a) b (c + 1) = spl a b c := by rw [spl, h]
theorem spl_take {x : Int} {a b : List Int} {c k : Nat} (h : at1 x b = some k) (hl : (lst a b).length ≤ (lst a (b.drop (k + 1))).length + 1) : spl (x :: a) b (c + 1) = k + 1 + spl a (b.drop (k + 1)) c := by rw [spl, h]; exact if_pos hl
theorem spl_skip {x : Int} {a b : List Int} {c k : Nat} (h : at1 x b = some k) (hl : ¬ (lst a b).length ≤ (lst a (b.drop (k + 1))).length + 1) : spl (x :: a) b (c + 1) = spl a b c := by rw [spl, h]; exact if_neg hl
theorem spl_le : ∀ (a b : List Int) (c : Nat), spl a b c ≤ b.length
  | a, b, 0 => by rw [spl_zero]; exact Nat.zero_le _
  | [], b, c + 1 => Nat.zero_le _
  | x :: a, b, c + 1 => by
    cases h : at1 x b with
    | none => rw [spl_no h]; exact spl_le a b c
    | some k =>
      have hk := (List.getElem?_eq_some_iff.1 (at1_some h).1).1
      by_cases hl : (lst a b).length ≤ (lst a (b.drop (k + 1))).length + 1
      · rw [spl_take h hl]
        have := spl_le a (b.drop (k + 1)) c
        rw [List.length_drop] at this
        omega
      · rw [spl_skip h hl]; exact spl_le a b c
theorem lst_parts : ∀ (a b : List Int) (c : Nat), ∃ P, G (a.take c) (b.take (spl a b c)) P ∧ lst a b = P ++ sh c (spl a b c) (lst (a.drop c) (b.drop (spl a b c)))
  | a, b, 0 => ⟨[], trivial, by rw [spl_zero]; simp [sh_zero]⟩
  | [], b, c + 1 => ⟨[], trivial, by simp [lst, sh_nil]⟩
  | x :: a, b, c + 1 => by
    cases h : at1 x b with
    | none =>
      obtain ⟨P, h1, h2⟩ := lst_parts a b c
      rw [spl_no h, lst_no h, h2]
      exact ⟨sh 1 0 P, g_skip h1, by rw [sh_append, sh_sh, Nat.add_comm 1 c, Nat.zero_add]; rfl⟩
    | some k =>
      obtain ⟨a1, _⟩ := at1_some h
      have hk := (List.getElem?_eq_some_iff.1 a1).1
      by_cases hl : (lst a b).length ≤ (lst a (b.drop (k + 1))).length + 1
      · obtain ⟨P, h1, h2⟩ := lst_parts a (b.drop (k + 1)) c
        rw [spl_take h hl, lst_take h hl, h2]
        refine ⟨(0, (k : Int)) :: sh 1 (k + 1) P, ?_, ?_⟩
        · refine g_take (a := a.take c) ?_ ?_
          · rw [List.getElem?_take, if_pos (by omega)]; exact a1
          · rw [List.drop_take, show k + 1 + spl a (b.drop (k + 1)) c - (k + 1) = spl a (b.drop (k + 1)) c by omega]
            exact h1
        · rw [sh_append, sh_sh, Nat.add_comm 1 c, List.drop_drop]
          rfl
      · obtain ⟨P, h1, h2⟩ := lst_parts a b c
        rw [spl_skip h hl, lst_skip h hl, h2]
        exact ⟨sh 1 0 P, g_skip h1, by rw [sh_append, sh_sh, Nat.add_comm 1 c, Nat.zero_add]; rfl⟩
/-- Both parts of the least list are the least lists of their halves. -/
theorem lst_cut (a b : List Int) (c : Nat) : lst a b = lst (a.take c) (b.take (spl a b c)) ++ sh c (spl a b c) (lst (a.drop c) (b.drop (spl a b c))) := by
  obtain ⟨P, h1, h2⟩ := lst_parts a b c
  have hlea := lst_lea a b
  suffices e : P = lst (a.take c) (b.take (spl a b c)) by rw [h2, e]
  generalize spl a b c = j at *
  have hlen := hlea.2.1
  rw [h2, List.length_append, sh_length] at hlen
  have t1 := lst_lea (a.take c) (b.take j)
  have t2 := g_le (g_join t1.1 (lst_lea (a.drop c) (b.drop j)).1)
  rw [List.length_append, sh_length, t1.2.1] at t2
  have t3 := g_le h1
  refine lst_of ⟨h1, by omega, fun l' hl' hn => ?_⟩
  rw [Bool.eq_false_iff, Ne]
  intro hless
  have g := hlea.2.2 _ (g_join hl' (lst_lea (a.drop c) (b.drop j)).1) (by rw [List.length_append, sh_length]; omega)
  rw [h2, lessB_app _ _ (by omega) hless] at g
  cases g

/-! The first pair. -/
theorem lst_same (x : Int) (a b : List Int) : lst (x :: a) (x :: b) = (0, 0) :: sh 1 1 (lst a b) := by
  have h : at1 x (x :: b) = some 0 := by rw [at1, if_pos rfl]
  refine lst_take h ?_
  rw [lst_length, lst_length]
  have := lcs_cons_le x b a
  rw [lcs_comm, lcs_comm b a] at this
  exact this
theorem lst_nil_right : ∀ a : List Int, lst a [] = []
  | [] => rfl
  | x :: a => by rw [lst_no rfl, lst_nil_right a]; rfl
theorem lst_one_no {x : Int} {b : List Int} (h : at1 x b = none) : lst [x] b = [] := by rw [lst_no h]; rfl
theorem lst_one {x : Int} {b : List Int} {k : Nat} (h : at1 x b = some k) : lst [x] b = [(0, (k : Int))] := by rw [lst_take h (by simp [lst])]; rfl
theorem lx_drop (a b : List Int) (i j x y : Nat) : lx (a.drop i) (b.drop j) x y = lx a b (i + x) (j + y) := by simp [lx, List.drop_drop]
theorem lst_head : ∀ {a b : List Int} {L : Nat}, lcs a b = L + 1 → ∃ x y : Nat, First a b 0 0 L x y ∧ lst a b = ((x : Int), (y : Int)) :: sh (x + 1) (y + 1) (lst (a.drop (x + 1)) (b.drop (y + 1)))
  | [], b, L, h => by rw [lcs_nil_left] at h; omega
  | z :: a, b, L, hL => by
    have skip : lst (z :: a) b = sh 1 0 (lst a b) → lcs a b = L + 1 → (∀ y : Nat, b[y]? = some z → lcs a (b.drop (y + 1)) = L → False) → ∃ x y : Nat, First (z :: a) b 0 0 L x y ∧ lst (z :: a) b = ((x : Int), (y : Int)) :: sh (x + 1) (y + 1) (lst ((z :: a).drop (x + 1)) (b.drop (y + 1))) := by
      intro e1 e2 e3
      obtain ⟨x, y, ⟨f1, f2, ⟨v, p1, p2, p3⟩, f4⟩, e⟩ := lst_head e2
      refine ⟨x + 1, y, ⟨Nat.zero_le _, Nat.zero_le _, ⟨v, by simpa using p1, p2, p3⟩, fun x' y' _ _ hp => ?_⟩, ?_⟩
      · obtain ⟨v', q1, q2, q3⟩ := hp
        cases x' with
        | zero =>
          simp at q1
          subst q1
          exact (e3 y' q2 (by simpa [lx] using q3)).elim
        | succ x' =>
          have := f4 x' y' (Nat.zero_le _) (Nat.zero_le _) ⟨v', by simpa using q1, q2, q3⟩
          omega
      · rw [e1, e, sh_cons, sh_sh]
        congr 1
        rw [Nat.add_comm 1 (x + 1), Nat.zero_add]
        rfl
    cases h : at1 z b with
    | none =>
      rw [lcs_no a h] at hL
      exact skip (lst_no h) hL fun y hy _ => at1_none h y hy
    | some k =>
      obtain ⟨a1, a2⟩ := at1_some h
      rw [lcs_yes a h] at hL
      by_cases hl : (lst a b).length ≤ (lst a (b.drop (k + 1))).length + 1
      · have e := lst_take h hl
        rw [lst_length, lst_length] at hl
        refine ⟨0, k, ⟨Nat.le_refl _, Nat.zero_le _, ⟨z, rfl, a1, ?_⟩, fun x' y' _ _ hp => ?_⟩, e⟩
        · show lcs a (b.drop (k + 1)) = L
          omega
        · obtain ⟨v', q1, q2, q3⟩ := hp
          cases x' with
          | zero =>
            simp at q1
            subst q1
            exact .inr ⟨rfl, a2 y' q2⟩
          | succ x' => exact .inl (by omega)
      · have e := lst_skip h hl
        rw [lst_length, lst_length] at hl
        refine skip e (by omega) fun y hy hq => ?_
        have hy' := a2 y hy
        have h2 : lcs a (b.drop (y + 1)) ≤ lcs a (b.drop (k + 1)) := lcs_mono (List.Sublist.refl _) (by
          rw [show y + 1 = (k + 1) + (y - k) by omega, ← List.drop_drop]
          exact List.drop_sublist _ _)
        omega
theorem First.unique {a b : List Int} {i j L x y x' y' : Nat} (h : First a b i j L x y) (h' : First a b i j L x' y') : x = x' ∧ y = y' := by
  obtain ⟨h1, h2, h3, h4⟩ := h
  obtain ⟨k1, k2, k3, k4⟩ := h'
  have := h4 x' y' k1 k2 k3
  have := k4 x y h1 h2 h3
  omega
theorem first_drop {a b : List Int} {i j L x y : Nat} (h : First (a.drop i) (b.drop j) 0 0 L x y) : First a b i j L (i + x) (j + y) := by
  obtain ⟨_, _, ⟨v, p1, p2, p3⟩, h4⟩ := h
  refine ⟨by omega, by omega, ⟨v, by rw [List.getElem?_drop] at p1; exact p1, by rw [List.getElem?_drop] at p2; exact p2, by rw [← p3, lx_drop]; rfl⟩, fun x' y' g1 g2 hp => ?_⟩
  obtain ⟨v', q1, q2, q3⟩ := hp
  obtain ⟨x'', rfl⟩ := Nat.exists_eq_add_of_le g1
  obtain ⟨y'', rfl⟩ := Nat.exists_eq_add_of_le g2
  have := h4 x'' y'' (Nat.zero_le _) (Nat.zero_le _) ⟨v', by rw [List.getElem?_drop]; exact q1, by rw [List.getElem?_drop]; exact q2, by rw [lx_drop]; exact q3⟩
  omega
theorem chain_lst {a b : List Int} {l : List Pr} {i j : Nat} (h : Chain a b l i j) : lst a b = l ++ sh i j (lst (a.drop i) (b.drop j)) := by
  induction h with
  | nil => simp [sh_zero]
  | @snoc l i j L x y _ h1 h2 ih =>
    obtain ⟨x', y', hf, e⟩ := lst_head (a := a.drop i) (b := b.drop j) (L := L) h1
    obtain ⟨rfl, rfl⟩ := (first_drop hf).unique h2
    rw [ih, e, sh_cons, sh_sh, List.append_assoc, List.drop_drop, List.drop_drop]
    congr 1
    show _ :: _ = _ :: _
    congr 1
    simp only [Prod.mk.injEq]
    omega
theorem chain_end {a b : List Int} {l : List Pr} {i j : Nat} (h : Chain a b l i j) (hl : l.length = lcs a b) : l = lst a b := by
  have e := chain_lst h
  have := congrArg List.length e
  rw [lst_length, List.length_append] at this
  rw [e, List.eq_nil_of_length_eq_zero (show (sh i j (lst (a.drop i) (b.drop j))).length = 0 by omega), List.append_nil]
/-- With the same put ahead of both. -/
def diag (n : Nat) : List Pr := (List.range n).map fun (k : Nat) => ((k : Int), (k : Int))
theorem diag_succ (n : Nat) : diag (n + 1) = (0, 0) :: sh 1 1 (diag n) := by
  unfold diag sh
  rw [List.range_succ_eq_map]
  simp [Function.comp_def]
theorem lst_front (a b : List Int) : ∀ f : List Int, lst (f ++ a) (f ++ b) = diag f.length ++ sh f.length f.length (lst a b)
  | [] => by simp [diag, sh_zero]
  | x :: f => by
    rw [List.cons_append, List.cons_append, lst_same, lst_front a b f, List.length_cons, diag_succ, sh_append, sh_sh, Nat.add_comm 1 f.length]
    rfl

end Go.Proofs.Ytejpbjglfjhjkaa
