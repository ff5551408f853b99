/-
  Words and contracts that the proof leans on.
-/
import Derived.Test.YtncbhnmhaoblaaaM13
import Derived.Test.YtncbhnmhaoblaaaM4
import Derived.Deep.RegionWith
import Derived.Deep.RegionHeld3
import Derived.Test.YtncbhnmhaoblaaaM11
namespace Go.Proofs.Ytncbhnmhaoblaaa
open Go.RowKit Go.Maps

/-- The head of a round of New. -/
def NewRel (b : List Int) (w : World) (i : Value) (wr : World) : Prop :=
  ∃ (k : Nat) (f : Int → Value), k ≤ b.length ∧ i = .int .i64 k ∧ MaskM wr (w.heap.size + 2) w.heap.size b k f ∧ wr.heap[w.heap.size + 1]? = some (.cells #[.int .i64 (b.length : Int), .map (some w.heap.size)] 60 (0, 0)) ∧ Below w.heap.size w wr

theorem new_done {b : List Int} {w wr : World} {f : Int → Value} (h : MaskM wr (w.heap.size + 2) w.heap.size b b.length f) (hp : wr.heap[w.heap.size + 1]? = some (.cells #[.int .i64 (b.length : Int), .map (some w.heap.size)] 60 (0, 0))) (hb : Below w.heap.size w wr) :
    MskMade b w (.returned (.pointer (some ⟨w.heap.size + 1, 0, none⟩))) wr := by
  have hl := (Array.getElem?_eq_some_iff.1 hp).1
  refine ⟨_, rfl, ⟨_, w.heap.size, _, f, rfl, by omega, hl, by omega, by omega, hp, h, fun k g e => ?_⟩, hb⟩
  obtain ⟨ps, ho, _⟩ := h.rows k
  exact (ho.lt g e).2

theorem new_round {b : List Int} {w wr w1 w2 : World} {k : Nat} {f : Int → Value} (hk : k < b.length) (hB : Below w.heap.size w wr) (hp : wr.heap[w.heap.size + 1]? = some (.cells #[.int .i64 (b.length : Int), .map (some w.heap.size)] 60 (0, 0))) {x : Int} (hM0 : MaskM wr (w.heap.size + 2) w.heap.size b k f) (hg : wr.grownBy w1 (f x).ownBlock)
    (hg2 : w1.grownBy w2 (some w.heap.size)) {f' : Int → Value} (hM : MaskM w2 (w.heap.size + 2) w.heap.size b (k + 1) f') : NewRel b w (.int .i64 (k + 1 : Nat)) w2 := by
  have hl := (Array.getElem?_eq_some_iff.1 hp).1
  have hrow : ∀ g, (f x).ownBlock = some g → w.heap.size + 2 ≤ g := fun g e => by
    obtain ⟨ps, ho, _⟩ := hM0.rows x
    exact (ho.lt g e).1
  refine ⟨k + 1, f', by omega, rfl, hM, ?_, (hB.grown hg hB.size fun q hq => ?_).grown hg2 (Nat.le_trans hB.size hg.size) fun q hq => ?_⟩
  · have hs := hg.size
    rw [hg2.block _ (by omega) (by simp), hg.block _ hl (fun e => by have := hrow _ e.symm; omega)]
    exact hp
  · have := hrow q hq
    omega
  · cases hq
    exact Nat.le_refl _

theorem new_cell {b : List Int} {lo B q : Nat} {wr w1 : World} {k : Nat} {f : Int → Value} {x : Int} {n : Int} (hM0 : MaskM wr.drew lo B b k f) (hp : wr.heap[q]? = some (.cells #[.int .i64 n, .map (some B)] 60 (0, 0))) (hg : wr.drew.grownBy w1 (f x).ownBlock) (hq : q < lo := by omega) :
    w1.cell? ⟨q, 1, none⟩ = some (.map (some B)) := by
  have hl := (Array.getElem?_eq_some_iff.1 hp).1
  obtain ⟨ps, ho, _⟩ := hM0.rows x
  have h1 : w1.heap[q]? = wr.heap[q]? := hg.block q hl (fun e => by have := (ho.lt _ e.symm).1; omega)
  simp [World.cell?, h1, hp]

set_option maxRecDepth 100000 in
set_option maxHeartbeats 3200000 in
theorem new_any (A : Option Addr) (n c : Nat) (b : List Int) (w : World) (hn : b.length = n) (hb : n ≤ 1048576) (hr : Row w A (iv b)) (hw : ∀ x ∈ b, (Lit.int .i64 x).wf = true) :
    Calls Try.prog 24 #[.slice A n c] w (MskMade b w) := by
  subst hn
  have hmm := @run_makeMap Try.prog
  go_enter Try.func24, Try.ntmps24
  go_wp2_with fail
  have hs0 := MaskM.start w (.cells #[.int .i64 (b.length : Int), .map (some w.heap.size)] 60) b
  have hp0 : ((w.alloc (.map #[] 0)).alloc (.cells #[.int .i64 (b.length : Int), .map (some w.heap.size)] 60)).heap[w.heap.size + 1]? = some (.cells #[.int .i64 (b.length : Int), .map (some w.heap.size)] 60 (0, 0)) := by
    have := (MapKept.heap_alloc (w.alloc (.map #[] 0)) (.cells #[.int .i64 (b.length : Int), .map (some w.heap.size)] 60)).1
    simpa using this
  have hb0 := below_alloc2 w (.map #[] 0) (.cells #[.int .i64 (b.length : Int), .map (some w.heap.size)] 60)
  generalize (w.alloc (.map #[] 0)).alloc (.cells #[.int .i64 (b.length : Int), .map (some w.heap.size)] 60) = w0 at *
  go_loopw [13] (fun i wr => NewRel b w i wr) (fun i _ => b.length - (RowKit.intOf i).toNat)
  case atStart => exact ⟨0, _, Nat.zero_le _, rfl, hs0, hp0, hb0⟩
  case round =>
    clear hs0 hp0 hb0
    obtain ⟨k, f, hk, rfl, hM, hp, hB⟩ := hrel
    by_cases hlt : k < b.length
    · obtain ⟨g, o, rfl, hc⟩ := (hr.below hB).int hlt
      have HX : Hid (b[k]? = some b[k]) := List.getElem?_eq_getElem hlt
      have hx := hw b[k] (List.getElem_mem _)
      clear hr hw
      generalize b[k] = x at *
      have hlook := MaskM.look hM.drew hx
      have hcp : wr.cell? ⟨w.heap.size + 1, 1, none⟩ = some (.map (some w.heap.size)) := by simp [World.cell?, hp]
      have HM := Lib.hid hM
      have HP := Lib.hid hp
      have HB := Lib.hid hB
      have hks : k ≤ 1048576 := by omega
      obtain ⟨ps, hown, hpp⟩ := hM.rows x
      have HW := Lib.hid (with_any ps (f x) _ k (w.heap.size + 2) (fun j => decide (b[j]? = some x)) wr.drew rfl hks (by have := (Array.getElem?_eq_some_iff.1 hp).1; show _ ≤ wr.heap.size; omega) (World.ownsRow.drew hown) hpp (by rw [HX.out]; simp))
      clear hM hp hB hown hpp
      go_wp2_with fail
      go_region_with (go_at_call 36; refine HW.out.mono ?_; rintro e w1 ⟨v', ps', rfl, own1, hp1, hg1, hl1⟩; obtain ⟨w2, hup, hM2, hg2⟩ := MaskM.put HM.out.drew (by unfold maxLen; omega) hx HX.out own1 hp1 hg1 hl1; have hcp1 : w1.cell? ⟨w.heap.size + 1, 1, none⟩ = some (.map (some w.heap.size)) := new_cell HM.out.drew HP.out hg1; have R := new_round hlt HB.out.drew HP.out HM.out.drew hg1 hg2 hM2; clear own1 hp1 hg1 hl1 hM2 hg2)
      all_goals (
        go_wp2_with fail
        go_roundw
        case rel => exact R
        case measure => simp [RowKit.intOf]; omega)
    · have hkb : k = b.length := by omega
      subst hkb
      have HF := Lib.hid (new_done hM hp hB)
      clear hM hp hB hr hw
      go_wp2_with fail
      go_ret
      exact HF.out

end Go.Proofs.Ytncbhnmhaoblaaa

namespace Go.Proofs.Ytncbhnmhaoblaaa
open Go.RowKit Go.Maps

def fillV (ps : List PtMkP) (W : Nat) : List Nat := (List.range W).map (fillP ps)
theorem fillV_length (ps : List PtMkP) (W : Nat) : (fillV ps W).length = W := by simp [fillV]
theorem fillV_set (ps : List PtMkP) (p : PtMkP) (W : Nat) : (uv (fillV ps W)).set p.1 (.int .u64 (p.2 : Int)) = uv (fillV (ps ++ [p]) W) := by
  apply List.ext_getElem?
  intro i
  rw [List.getElem?_set]
  simp only [uv, fillV, List.map_map, List.getElem?_map, List.length_map, List.length_range]
  by_cases hi : i < W
  · rw [List.getElem?_range hi]
    by_cases e : p.1 = i
    · subst e
      simp [fillP_snoc, hi]
    · rw [if_neg e]
      simp only [Option.map_some, Function.comp, fillP_snoc]
      rw [if_neg (fun e' => e e'.symm)]
  · rw [List.getElem?_eq_none (by simp; omega)]
    by_cases e : p.1 = i
    · rw [if_pos e, if_neg (by omega)]
      rfl
    · rw [if_neg e]
      rfl
theorem fillV_wd {ps : List PtMkP} (h : ∀ p ∈ ps, p.2 < 18446744073709551616) (W : Nat) : Wd (fillV ps W) := by
  intro u hu
  obtain ⟨k, _, rfl⟩ := List.mem_map.1 hu
  exact fillP_lt _ ps rfl h
theorem bt_fill (ps : List PtMkP) (W j : Nat) : bt (fillV ps W) j = (decide (j < 64 * W) && (fillP ps (j / 64)).testBit (j % 64)) := by
  unfold bt fillV
  rw [List.getElem?_map]
  by_cases hj : j / 64 < W
  · rw [List.getElem?_range hj, decide_eq_true (by omega), Bool.true_and]
    rfl
  · rw [List.getElem?_eq_none (by simp; omega), decide_eq_false (by omega)]
    simp

/-- The head of a round of Of. -/
def OfRelMk4 (ps : List PtMkP) (A : Option Addr) (W : Nat) (w : World) (z i : Value) (wr : World) : Prop :=
  ∃ k : Nat, k ≤ ps.length ∧ i = .int .i64 k ∧ wr.ownsRow w.heap.size 71 1 z W (uv (fillV (ps.take k) W)) ∧ Row wr A (ptvMkP ps) ∧ Below w.heap.size w wr

theorem of_doneMk4 {b : List Int} {sym : Int} {ps : List PtMkP} {W : Nat} {w wr : World} {z : Value} (hp : Parts ps b.length (fun j => decide (b[j]? = some sym))) (hown : wr.ownsRow w.heap.size 71 1 z W (uv (fillV ps W))) (hb : Below w.heap.size w wr) :
    MadeV W (fun j => decide (b[j]? = some sym)) w (.returned z) wr := by
  refine ⟨z, fillV ps W, rfl, fillV_length _ _, fillV_wd hp.wd W, fun j => ?_, by rw [fillV_length]; exact hown, hb⟩
  rw [bt_fill, hp.bits]
  by_cases hj : j < 64 * W
  · rw [decide_eq_true hj, Bool.true_and, Bool.true_and]
    by_cases h : j < b.length
    · rw [decide_eq_true h, Bool.true_and]
    · rw [decide_eq_false h, Bool.false_and]
      show false = decide (b[j]? = some sym)
      rw [List.getElem?_eq_none (by omega)]
      simp
  · rw [decide_eq_false hj, Bool.false_and, Bool.false_and]

theorem of_startMk4 {W : Nat} {x : List Nat} {b : Nat → Bool} (hx : x.length = W) (wx : Wd x) (bx : ∀ j, bt x j = (decide (j < 64 * W) && (b j && bt [] j))) : x = fillV [] W := by
  refine words_eq (by rw [hx, fillV_length]) wx (fillV_wd (by simp) W) fun j => ?_
  rw [bx, bt_fill]
  have e : bt [] j = false := by simp [bt]
  rw [e]
  simp [fillP]
theorem of_round {ps : List PtMkP} {A : Option Addr} {W k : Nat} {w wr : World} {G c : Nat} {a u : Nat} {o : Obj} (hk : ps[k]? = some (a, u)) (hown : wr.ownsRow w.heap.size 71 1 (.slice (some ⟨G, 0, none⟩) W c) W (uv (fillV (ps.take k) W))) (hr : Row wr A (ptvMkP ps)) (hA : ∀ ad, A = some ad → ad.block < w.heap.size) (hb : Below w.heap.size w wr) :
    OfRelMk4 ps A W w (.slice (some ⟨G, 0, none⟩) W c) (.int .i64 ((k : Int) + 1)) ((wr.setCell ⟨G, a, none⟩ (.int .u64 (u : Int))).alloc o) := by
  obtain ⟨hlt, e⟩ := List.getElem?_eq_some_iff.1 hk
  have hG : w.heap.size ≤ G := (hown.lt G rfl).1
  refine ⟨k + 1, by omega, rfl, ?_, ?_, (hb.setCell hG _).alloc (by simpa using hb.size) o⟩
  · have h1 := (own_setS hown a (.int .u64 (u : Int))).alloc o
    have h2 := fillV_set (ps.take k) (a, u) W
    rw [h2] at h1
    rw [List.take_succ_eq_append_getElem hlt, e]
    exact h1
  · refine Row.alloc (fun hne => ?_) o
    obtain ⟨g, o', rfl, hc⟩ := hr hne
    refine ⟨g, o', rfl, fun i v hv => ?_⟩
    rw [World.cell?_setCell_other _ _ _ _ (fun e' => ?_)]
    · exact hc i v hv
    · have := hA _ rfl
      have e2 : g = G := by injection e' with h1; exact h1.symm
      simp only at this
      omega

set_option maxRecDepth 100000 in
set_option maxHeartbeats 3200000 in
theorem of_anyMk4 (lo hi : Nat) (b : List Int) (v : Value) (sym : Int) (w : World) (hb : b.length ≤ 1048576) (hh : hi ≤ w.heap.size) (hm : Msk lo hi b w v) (hs : (Lit.int .i64 sym).wf = true) :
    Calls Try.prog 51 #[v, .int .i64 sym] w (MadeV (wdsVc3 b.length) (fun j => decide (b[j]? = some sym)) w) := by
  obtain ⟨p, B, r, f, rfl, h1, h2, h3, h4, h5, h6, h7⟩ := hm
  have hF := pfit none 0 0 [] (b.length : Int) w rfl (by omega) (Nat.le_refl _) (Nat.zero_le _) ⟨by omega, by omega⟩ (Row.nil _ _) (by intro u hu; simp at hu)
  have hWn : b.length ≤ 64 * wdsVc3 b.length := by have := wds_wid b.length; unfold wid at this; split at this; omega; split at this <;> omega
  have hWl := wds_le b.length
  obtain ⟨W, hW⟩ : ∃ W, wdsVc3 b.length = W := ⟨_, rfl⟩
  rw [hW] at hF hWn hWl ⊢
  clear hW
  have HF := Lib.hid hF
  clear hF
  have c0 : w.cell? ⟨p, 0, none⟩ = some (.int .i64 (b.length : Int)) := by simp [World.cell?, h5]
  have c1 : w.cell? ⟨p, 1, none⟩ = some (.map (some B)) := by simp [World.cell?, h5]
  have hpl : p < w.heap.size := by omega
  clear h5
  go_enter Try.func51, Try.ntmps51
  go_wp2_with fail
  refine HF.out.mono ?_
  rintro e w1 ⟨z, x, rfl, hx, wx, bx, own, hb1⟩
  have ex := of_startMk4 hx wx bx
  subst ex
  rw [fillV_length] at own
  have c1' : w1.cell? ⟨p, 1, none⟩ = some (.map (some B)) := (hb1.cell (p := ⟨p, 1, none⟩) hpl).trans c1
  have hM1 : MaskM w1 r B b b.length f := h6.keep h4 h7 (fun i _ hi' => hb1.block i (by omega))
  have hlook := hM1.look hs
  obtain ⟨ps, hown, hp⟩ := hM1.rows sym
  have hblk : ∀ g, (f sym).ownBlock = some g → g < w.heap.size := fun g e => by have := h7 sym g e; omega
  have hlen := hp.len
  obtain ⟨A, c, e1, _, _, hr, _⟩ := own_sliceS hown
  have HFD := Lib.hid (fun wr z h => of_doneMk4 (W := W) (w := w) (wr := wr) (z := z) hp h)
  have HLO := Lib.hid (show ∀ p ∈ ps, p.1 < W from fun p hp' => by have := hp.lo p hp'; omega)
  have HA : ∀ ad, A = some ad → ad.block < w.heap.size := fun ad e => hblk ad.block (by rw [e1, e]; rfl)
  rw [e1] at hlook
  clear HF h6 hM1 h7 hown hp c0 c1 hx wx bx e1 hblk
  go_wp2_with fail
  go_loopw [20] (fun i wr => OfRelMk4 ps A W w z i wr) (fun i _ => ps.length - (RowKit.intOf i).toNat)
  case atStart => exact ⟨0, Nat.zero_le _, rfl, own, hr, hb1⟩
  case round =>
    clear own hr hb1 hlook c1'
    obtain ⟨k, hk, rfl, own, hr, hb1⟩ := hrel
    by_cases hlt : k < ps.length
    · obtain ⟨g, o, rfl, hc, hd⟩ := hr.part hlt
      have HX : Hid (ps[k]? = some ps[k]) := List.getElem?_eq_getElem hlt
      have hW0 := HLO.out ps[k] (List.getElem_mem _)
      generalize ps[k] = q at *
      obtain ⟨a, u⟩ := q
      simp only at hc hd hW0
      obtain ⟨G, d, rfl, hfz, hG, hGl⟩ := own_posS own (by omega)
      have hgl := HA _ rfl
      have hf := hfz a
      have HR := Lib.hid (fun o => of_round (o := o) HX.out own hr HA hb1)
      have hcz : ∀ o, (wr.alloc o).frozen? ⟨G, a, none⟩ = false := fun o => by
        have := (Below.refl wr.heap.size wr).alloc (Nat.le_refl _) o
        rw [this.frozen (p := ⟨G, a, none⟩) hGl]
        exact hf
      have hcell : ∃ y, wr.cell? ⟨G, a, none⟩ = some y := by
        obtain ⟨y, hy⟩ : ∃ y, (uv (fillV (ps.take k) W))[a]? = some y := ⟨_, List.getElem?_eq_getElem (by rw [uv_length, fillV_length]; exact hW0)⟩
        have := own.cells (g := G) rfl a y hy
        exact ⟨y, by simpa [Addr.add_lit] using this⟩
      obtain ⟨y, hy⟩ := hcell
      clear own hr hb1
      go_wp2_with fail
      exact ⟨HR.out _, by simp [RowKit.intOf]; omega⟩
    · have hkb : k = ps.length := by omega
      subst hkb
      rw [List.take_length] at own
      have HQ := Lib.hid (HFD.out _ _ own hb1)
      clear own hr hb1
      go_wp2_with fail
      go_ret
      exact HQ.out

end Go.Proofs.Ytncbhnmhaoblaaa
