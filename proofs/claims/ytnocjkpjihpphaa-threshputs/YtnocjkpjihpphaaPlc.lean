/-
  Where numbers stand: what is meant, and the contract of the reference's Places.
-/
import Derived.Test.YtnocjkpjihpphaaRefL
namespace Go.Proofs.Ytnocjkpjihpphaa
open Go.RowKit

/-- The places of k among the first t of b. -/
def plcT (b : List Int) (t k : Nat) : List Int := ((List.range t).filter fun j => decide (b[j]? = some (k : Int))).map fun j : Nat => (j : Int)
/-- The places of k. -/
def plc (b : List Int) (k : Nat) : List Int := plcT b b.length k
theorem plcT_zero (b : List Int) (k : Nat) : plcT b 0 k = [] := by simp [plcT]
theorem plcT_next {b : List Int} {t x k : Nat} (h : b[t]? = some (x : Int)) : plcT b (t + 1) k = if k = x then plcT b t x ++ [(t : Int)] else plcT b t k := by
  unfold plcT
  rw [List.range_succ, List.filter_append, List.map_append]
  by_cases e : k = x
  · subst e
    rw [if_pos rfl]
    simp [h]
  · rw [if_neg e]
    have hn : decide (b[t]? = some (k : Int)) = false := by
      rw [decide_eq_false_iff_not, h]
      intro e'
      apply e
      have := Option.some.inj e'
      omega
    simp [hn]
theorem plcT_length (b : List Int) (t k : Nat) : (plcT b t k).length ≤ t := by
  unfold plcT
  rw [List.length_map]
  exact Nat.le_trans (List.length_filter_le _ _) (by simp)

/-- Each number of b is below n. -/
def allN (n : Int) (b : List Int) : Bool := b.all fun x => decide (0 ≤ x ∧ x < n)
/-- n and b fit. -/
def fitsN (n : Int) (b : List Int) : Bool := decide (0 ≤ n ∧ n ≤ 1048576) && allN n b
theorem allN_snoc {n : Int} {b : List Int} {k : Nat} {x : Int} (h : allN n (b.take k) = true) (hc : b[k]? = some x) (hi : 0 ≤ x ∧ x < n) : allN n (b.take (k + 1)) = true := by
  obtain ⟨hk, e⟩ := List.getElem?_eq_some_iff.1 hc
  unfold allN at *
  rw [List.take_succ_eq_append_getElem hk, e, List.all_append, h]
  simp [hi]
theorem allN_no {n : Int} {b : List Int} {k : Nat} {x : Int} (hc : b[k]? = some x) (hi : ¬ (0 ≤ x ∧ x < n)) : allN n b = false := by
  unfold allN
  rw [List.all_eq_false]
  exact ⟨x, List.mem_of_getElem? hc, by simpa using hi⟩
theorem allN_end {n : Int} {b : List Int} {k : Nat} (h : allN n (b.take k) = true) (hk : b.length ≤ k) : allN n b = true := by
  rwa [List.take_of_length_le hk] at h
theorem allN_at {n : Int} {b : List Int} {k : Nat} {x : Int} (h : allN n b = true) (hc : b[k]? = some x) : 0 ≤ x ∧ x < n := by
  unfold allN at h
  rw [List.all_eq_true] at h
  simpa using h x (List.mem_of_getElem? hc)

/-- The lists, or none. -/
def placesU (n : Int) (b : List Int) : List (List Int) := if fitsN n b = true then (List.range n.toNat).map (plc b) else []
def placesE (n : Int) (b : List Int) : Int := if fitsN n b = true then 0 else 1

/-- What Places leaves. -/
def PlacesMade (n : Int) (b : List Int) (w : World) (e : Ending) (w' : World) : Prop :=
  ∃ v, e = .returned (.tuple #[v, .int .i64 (placesE n b)]) ∧ ILs w' v (placesU n b) ∧ Below w.heap.size w w'
theorem places_no {n : Int} {b : List Int} {w w' : World} (h : fitsN n b = false) (hb : Below w.heap.size w w') : PlacesMade n b w (.returned (.tuple #[.slice none 0 0, .int .i64 1])) w' := by
  refine ⟨.slice none 0 0, by simp [placesE, h], ?_, hb⟩
  have e : placesU n b = [] := by simp [placesU, h]
  rw [e]
  exact ILs.nil _
theorem places_yes {n : Nat} {b : List Int} {w w' : World} {T : Nat} {F : Nat → Value} (h : fitsN n b = true) (hn : n ≤ maxLen) (hg : Gro w' T n F (plc b)) (hb : Below w.heap.size w w') : PlacesMade n b w (.returned (.tuple #[.slice (some ⟨T, 0, none⟩) n n, .int .i64 0])) w' := by
  refine ⟨_, by simp [placesE, h]; rfl, ?_, hb⟩
  have e : placesU n b = (List.range n).map (plc b) := by simp [placesU, h]
  rw [e]
  exact hg.read hn

/-- The head of a round of the second loop. -/
def PlcRel (b : List Int) (n : Nat) (w : World) (i : Value) (wr : World) : Prop :=
  ∃ (k : Nat) (F : Nat → Value), k ≤ b.length ∧ i = .int .i64 k ∧ Gro wr w.heap.size n F (plcT b k) ∧ Below w.heap.size w wr

theorem Try.infoIntsP : (Try.prog.info? 22).map (fun i => (i.zero, i.size, i.bytes)) = some (some (.slice none 0 0), 1, 24) := by kernel_rfl

theorem plc_round {b : List Int} {n k x : Nat} {w w1 w2 : World} {F : Nat → Value} {v' : Value} {m : Nat} (hk : k < b.length) (hx : x < n) (hb : b[k]? = some (x : Int)) (hg : Gro w1 w.heap.size n F (plcT b k)) (hm : m = (plcT b k x).length + 1)
    (hown : w2.ownsRow (w.heap.size + 1) 3 1 v' m (iv (plcT b k x) ++ [.int .i64 (k : Int)])) (hgr : w1.grownBy w2 (F x).ownBlock) (hat : v'.ownBlock = (F x).ownBlock ∨ v'.ownBlock = some w1.heap.size) (hB : Below w.heap.size w w1) :
    PlcRel b n w (.int .i64 (k + 1 : Nat)) (w2.setCell ⟨w.heap.size, x, none⟩ v') := by
  have e : iv (plcT b k x) ++ [.int .i64 (k : Int)] = iv (plcT b k x ++ [(k : Int)]) := by rw [iv_append]; rfl
  rw [e, hm, show (plcT b k x).length + 1 = (plcT b k x ++ [(k : Int)]).length by simp] at hown
  have hG := gro_put hg hx hown hgr hat
  refine ⟨k + 1, _, by omega, rfl, hG.congr fun i _ => (plcT_next hb).symm, (hB.grown hgr hB.size fun q hq => ?_).setCell (Nat.le_refl _) _⟩
  have := ((hg.2.1 x hx).lt q hq).1
  omega

theorem plc_facts {W1 w2 : World} {T n x : Nat} {F : Nat → Value} {L : Nat → List Int} (hG : Gro W1 T n F L) (hx : x < n) (g2 : W1.grownBy w2 (F x).ownBlock) :
    w2.cell? ⟨T, x, none⟩ = some (F x) ∧ w2.frozen? ⟨T, x, none⟩ = false ∧ ∀ (p : Addr) v, p.block < T → W1.cell? p = some v → w2.cell? p = some v := by
  have hne : ∀ q, q ≤ T → some q ≠ (F x).ownBlock := fun q hq e => by
    have := ((hG.2.1 x hx).lt q e.symm).1
    omega
  have k1 : w2.rowIs T 22 n F := hG.1.of_block (g2.block T hG.1.lt (hne T (Nat.le_refl _)))
  exact ⟨k1.cell hx, k1.frozen x, fun p v hp h => g2.cell h (hne _ (by omega))⟩

set_option maxRecDepth 100000 in
set_option maxHeartbeats 3200000 in
theorem places_any (n : Int) (B : Option Addr) (m d : Nat) (b : List Int) (w : World) (hm : b.length = m) (hb : m ≤ 1048576) (hr : Row w B (iv b)) :
    Calls Try.prog 19 #[.int .i64 n, .slice B m d] w (PlacesMade n b w) := by
  subst hm
  obtain ⟨i0, hi, hz0, hz1, hz2⟩ := info_parts Try.infoInt
  obtain ⟨j0, ji, jz0, jz1, jz2⟩ := info_parts Try.infoIntsP
  by_cases hn : 0 ≤ n ∧ n ≤ 1048576
  · obtain ⟨hn0, hn1⟩ := hn
    obtain ⟨n, rfl⟩ := Int.eq_ofNat_of_zero_le hn0
    have hn2 : n ≤ 1048576 := by omega
    have HG0 : Hid (∀ r, allN n b = r → fitsN n b = r) := fun r hv => by unfold fitsN; rw [hv, decide_eq_true ⟨hn0, hn1⟩, Bool.true_and]
    clear hn0
    have z1 : decide ((n : Int) < 0) = false := by simp
    have z2 : decide ((1048576 : Int) < (n : Int)) = false := by simp; omega
    have z3 : decide (1048576 < n) = false := by simp; omega
    go_enter Try.func19, Try.ntmps19
    go_wp2_with fail
    go_loopw [6] (fun i wr => ∃ k : Nat, k ≤ b.length ∧ i = .int .i64 k ∧ w = wr ∧ Hid (allN n (b.take k) = true)) (fun i _ => b.length - (intOf i).toNat)
    case atStart => exact ⟨0, Nat.zero_le _, rfl, rfl, by show _ = _; simp [allN]⟩
    case round =>
      obtain ⟨k, hk, rfl, rfl, hkk⟩ := hrel
      by_cases hlt : k < b.length
      · obtain ⟨g, o, rfl, hc⟩ := hr.int hlt
        have HX : Hid (b[k]? = some b[k]) := List.getElem?_eq_getElem hlt
        generalize b[k] = x at *
        clear hr
        have HR := Lib.hid (fun h => allN_snoc (n := n) hkk.out HX.out h)
        have HS := Lib.hid (fun h => places_no (w := w) (HG0.out _ (allN_no HX.out h)) (Below.refl w.heap.size w))
        clear hkk HX HG0
        go_wp2_with fail
        case roundEnd =>
          go_roundw
          case rel => exact ⟨k + 1, by omega, by go_num, by first | trivial | rfl, HR.out (by omega)⟩
          case measure => simp [intOf]; omega
        all_goals (go_ret2; exact HS.out (by omega))
      · have hal := allN_end hkk.out (by omega)
        have HA := Lib.hid hal
        have HG := Lib.hid (HG0.out _ hal)
        have hkl : k = b.length := by omega
        subst hkl
        clear hkk HG0 hlt hk hal
        go_wp2_with (at_make; refine wpList_make_row _ rfl _ _ 33 rfl 22 j0 (.slice none 0 0) Try.underlying33 ji jz0 jz1 rfl .i64 .i64 n rfl rfl (by rw [jz2]; omega) (by omega) ?_)
        have hT := gro_start w n
        have hB0 : Below w.heap.size w (w.alloc (.cells (madeCells #[.slice none 0 0] n) 22)) := (Below.refl _ _).alloc (Nat.le_refl _) _
        generalize w.alloc (.cells (madeCells #[.slice none 0 0] n) 22) = w0 at *
        go_wp2_with fail
        go_loopw [8] (fun i wr => PlcRel b n w i wr) (fun i _ => b.length - (intOf i).toNat)
        case atStart => exact ⟨0, _, Nat.zero_le _, rfl, hT.congr fun i _ => (plcT_zero b i).symm, hB0⟩
        case round =>
          clear hT hB0
          obtain ⟨k, F, hk, rfl, hG, hB⟩ := hrel
          by_cases hlt : k < b.length
          · obtain ⟨g, o, rfl, hc0⟩ := hr.int hlt
            have hgT : g < w.heap.size := World.block_lt_of_cell? _ _ hc0
            have hc : wr.cell? ⟨g, o + k, none⟩ = some (.int .i64 b[k]) := (hB.cell (p := ⟨g, o + k, none⟩) hgT).trans hc0
            have HX : Hid (b[k]? = some b[k]) := List.getElem?_eq_getElem hlt
            clear hc0
            generalize b[k] = x at *
            have hx := allN_at HA.out HX.out
            obtain ⟨x, rfl⟩ := Int.eq_ofNat_of_zero_le hx.1
            have hxn : x < n := by omega
            clear hr hx
            have hsz := hB.size
            have hTl := hG.lt
            have hc1 : ∀ o', (wr.alloc o').cell? ⟨g, o + k, none⟩ = some (.int .i64 (x : Int)) := fun o' => (((Below.refl _ wr).alloc (Nat.le_refl _) o').cell (p := ⟨g, o + k, none⟩) (World.block_lt_of_cell? _ _ hc)).trans hc
            have hcT : wr.cell? ⟨w.heap.size, x, none⟩ = some (F x) := hG.1.cell hxn
            have hcT1 : ∀ o', (wr.alloc o').cell? ⟨w.heap.size, x, none⟩ = some (F x) := fun o' => (hG.1.alloc o').cell hxn
            have hown := hG.2.1 x hxn
            have hlen := plcT_length b k x
            have HGG := Lib.hid hG
            have HBB := Lib.hid hB
            clear hG hB
            go_wp2_with fail
            go_region_law ((refine step_own_at rfl (.tmp 53) (.tmp 55) 22 rfl (w.heap.size + 1) 3 i0 (.int .i64 0) 1 8 Try.underlying22 hi hz0 hz1 hz2 rfl (by decide) _ _ _ rfl ((hown.alloc _).drew) ⟨wr.heap.size, 0, none⟩ 1 1 [.int .i64 (k : Int)] rfl rfl (cell_one_new wr _ _) (one_int _ _) (by unfold maxLen; omega) (by omega) (by simp; omega) ?_; intro v' w2 own2 g2 a2; obtain ⟨t2, f2, r2⟩ := plc_facts (HGG.out.alloc _).drew hxn g2; have c2 := r2 ⟨g, o + k, none⟩ _ hgT (hc1 _); clear r2; obtain ⟨A2, d2, rfl, _, _, _, _⟩ := own_slice own2))
            all_goals (
              have R := plc_round hlt hxn HX.out (HGG.out.alloc _).drew rfl own2 g2 a2 (below_drewN (HBB.out.alloc hsz _) 1)
              clear own2 g2 a2 t2 f2 c2 hc1 hcT1 hcT hc hown
              go_simp
              go_wp2_with fail
              go_roundw
              case rel => exact R
              case measure => simp [intOf]; omega)
          · have hkl : k = b.length := by omega
            subst hkl
            have HF := Lib.hid (places_yes HG.out (by unfold maxLen; omega) hG hB)
            clear hG hB
            go_wp2_with fail
            go_ret2
            exact HF.out
  · have HF := Lib.hid (places_no (n := n) (b := b) (w := w) (by unfold fitsN; rw [decide_eq_false hn, Bool.false_and]) (Below.refl w.heap.size w))
    clear hr
    by_cases h0 : n < 0
    · go_enter Try.func19, Try.ntmps19
      go_wp2_with fail
      go_ret2
      exact HF.out
    · have h1 : 1048576 < n := by omega
      go_enter Try.func19, Try.ntmps19
      go_wp2_with fail
      go_ret2
      exact HF.out

end Go.Proofs.Ytnocjkpjihpphaa
