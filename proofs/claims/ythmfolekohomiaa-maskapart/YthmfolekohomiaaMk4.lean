/-
  Package mask over the landed code: Of, Len, Words.
-/
import Derived.Test.YthmfolekohomiaaMk3
import Derived.Test.YthmfolekohomiaaVp5
namespace Go.Proofs.Ythmfolekohomiaa
open Go.RowKit Go.Maps

def fillV (ps : List Pt) (W : Nat) : List Nat := (List.range W).map (fillP ps)
theorem fillV_length (ps : List Pt) (W : Nat) : (fillV ps W).length = W := by simp [fillV]
theorem fillV_set (ps : List Pt) (p : Pt) (W : Nat) : (uv (fillV ps W)).set p.1 (.int .u64 (p.2 : Int)) = uv (fillV (ps ++ [p]) W) := by
  apply List.ext_getElem?
  intro i
  rw [List.getElem?_set]
  simp only [uv, fillV, List.map_map, List.getElem?_map, List.length_map, List.length_range]
  by_cases hi : i < W
  · rw [List.getElem?_range hi]
    by_cases e : p.1 = i
    · subst e
      simp [fillP_snoc, hi]
    · rw [if_neg e]
      simp only [Option.map_some, Function.comp, fillP_snoc]
      rw [if_neg (fun e' => e e'.symm)]
  · rw [List.getElem?_eq_none (by simp; omega)]
    by_cases e : p.1 = i
    · rw [if_pos e, if_neg (by omega)]
      rfl
    · rw [if_neg e]
      rfl
theorem fillV_wd {ps : List Pt} (h : ∀ p ∈ ps, p.2 < 18446744073709551616) (W : Nat) : Wd (fillV ps W) := by
  intro u hu
  obtain ⟨k, _, rfl⟩ := List.mem_map.1 hu
  exact fillP_lt _ ps rfl h
theorem bt_fill (ps : List Pt) (W j : Nat) : bt (fillV ps W) j = (decide (j < 64 * W) && (fillP ps (j / 64)).testBit (j % 64)) := by
  unfold bt fillV
  rw [List.getElem?_map]
  by_cases hj : j / 64 < W
  · rw [List.getElem?_range hj, decide_eq_true (by omega), Bool.true_and]
    rfl
  · rw [List.getElem?_eq_none (by simp; omega), decide_eq_false (by omega)]
    simp

/-- The head of a round of Of. -/
def OfRel (ps : List Pt) (A : Option Addr) (W : Nat) (w : World) (z i : Value) (wr : World) : Prop :=
  ∃ k : Nat, k ≤ ps.length ∧ i = .int .i64 k ∧ wr.ownsRow w.heap.size 28 1 z W (uv (fillV (ps.take k) W)) ∧ Row wr A (ptv ps) ∧ Below w.heap.size w wr

theorem of_done {b : List Int} {sym : Int} {ps : List Pt} {W : Nat} {w wr : World} {z : Value} (hp : Parts ps b.length (fun j => decide (b[j]? = some sym))) (hown : wr.ownsRow w.heap.size 28 1 z W (uv (fillV ps W))) (hb : Below w.heap.size w wr) :
    MadeV W (fun j => decide (b[j]? = some sym)) w (.returned z) wr := by
  refine ⟨z, fillV ps W, rfl, fillV_length _ _, fillV_wd hp.wd W, fun j => ?_, by rw [fillV_length]; exact hown, hb⟩
  rw [bt_fill, hp.bits]
  by_cases hj : j < 64 * W
  · rw [decide_eq_true hj, Bool.true_and, Bool.true_and]
    by_cases h : j < b.length
    · rw [decide_eq_true h, Bool.true_and]
    · rw [decide_eq_false h, Bool.false_and]
      show false = decide (b[j]? = some sym)
      rw [List.getElem?_eq_none (by omega)]
      simp
  · rw [decide_eq_false hj, Bool.false_and, Bool.false_and]

theorem of_start {W : Nat} {x : List Nat} {b : Nat → Bool} (hx : x.length = W) (wx : Wd x) (bx : ∀ j, bt x j = (decide (j < 64 * W) && (b j && bt [] j))) : x = fillV [] W := by
  refine words_eq (by rw [hx, fillV_length]) wx (fillV_wd (by simp) W) fun j => ?_
  rw [bx, bt_fill]
  have e : bt [] j = false := by simp [bt]
  rw [e]
  simp [fillP]
theorem of_round {ps : List Pt} {A : Option Addr} {W k : Nat} {w wr : World} {G c : Nat} {a u : Nat} {o : Obj} (hk : ps[k]? = some (a, u)) (hown : wr.ownsRow w.heap.size 28 1 (.slice (some ⟨G, 0, none⟩) W c) W (uv (fillV (ps.take k) W))) (hr : Row wr A (ptv ps)) (hA : ∀ ad, A = some ad → ad.block < w.heap.size) (hb : Below w.heap.size w wr) :
    OfRel ps A W w (.slice (some ⟨G, 0, none⟩) W c) (.int .i64 ((k : Int) + 1)) ((wr.setCell ⟨G, a, none⟩ (.int .u64 (u : Int))).alloc o) := by
  obtain ⟨hlt, e⟩ := List.getElem?_eq_some_iff.1 hk
  have hG : w.heap.size ≤ G := (hown.lt G rfl).1
  refine ⟨k + 1, by omega, rfl, ?_, ?_, (hb.setCell hG _).alloc (by simpa using hb.size) o⟩
  · have h1 := (own_setS hown a (.int .u64 (u : Int))).alloc o
    have h2 := fillV_set (ps.take k) (a, u) W
    rw [h2] at h1
    rw [List.take_succ_eq_append_getElem hlt, e]
    exact h1
  · refine Row.alloc (fun hne => ?_) o
    obtain ⟨g, o', rfl, hc⟩ := hr hne
    refine ⟨g, o', rfl, fun i v hv => ?_⟩
    rw [World.cell?_setCell_other _ _ _ _ (fun e' => ?_)]
    · exact hc i v hv
    · have := hA _ rfl
      have e2 : g = G := by injection e' with h1; exact h1.symm
      simp only at this
      omega

set_option maxRecDepth 100000 in
set_option maxHeartbeats 3200000 in
theorem of_any (lo hi : Nat) (b : List Int) (v : Value) (sym : Int) (w : World) (hb : b.length ≤ 1048576) (hh : hi ≤ w.heap.size) (hm : Msk lo hi b w v) (hs : (Lit.int .i64 sym).wf = true) :
    Calls Try.prog 9 #[v, .int .i64 sym] w (MadeV (wds b.length) (fun j => decide (b[j]? = some sym)) w) := by
  obtain ⟨p, B, r, f, rfl, h1, h2, h3, h4, h5, h6, h7⟩ := hm
  have hF := pfit none 0 0 [] (b.length : Int) w rfl (by omega) (Nat.le_refl _) (Nat.zero_le _) ⟨by omega, by omega⟩ (Row.nil _ _) (by intro u hu; simp at hu)
  have hWn : b.length ≤ 64 * wds b.length := by have := wds_wid b.length; unfold wid at this; split at this; omega; split at this <;> omega
  have hWl := wds_le b.length
  obtain ⟨W, hW⟩ : ∃ W, wds b.length = W := ⟨_, rfl⟩
  rw [hW] at hF hWn hWl ⊢
  clear hW
  have HF := Lib.hid hF
  clear hF
  have c0 : w.cell? ⟨p, 0, none⟩ = some (.int .i64 (b.length : Int)) := by simp [World.cell?, h5]
  have c1 : w.cell? ⟨p, 1, none⟩ = some (.map (some B)) := by simp [World.cell?, h5]
  have hpl : p < w.heap.size := by omega
  clear h5
  go_enter Try.func9, Try.ntmps9
  go_wp2_with fail
  refine HF.out.mono ?_
  rintro e w1 ⟨z, x, rfl, hx, wx, bx, own, hb1⟩
  have ex := of_start hx wx bx
  subst ex
  rw [fillV_length] at own
  have c1' : w1.cell? ⟨p, 1, none⟩ = some (.map (some B)) := (hb1.cell (p := ⟨p, 1, none⟩) hpl).trans c1
  have hM1 : MaskM w1 r B b b.length f := h6.keep h4 h7 (fun i _ hi' => hb1.block i (by omega))
  have hlook := hM1.look hs
  obtain ⟨ps, hown, hp⟩ := hM1.rows sym
  have hblk : ∀ g, (f sym).ownBlock = some g → g < w.heap.size := fun g e => by have := h7 sym g e; omega
  have hlen := hp.len
  obtain ⟨A, c, e1, _, _, hr, _⟩ := own_sliceS hown
  have HFD := Lib.hid (fun wr z h => of_done (W := W) (w := w) (wr := wr) (z := z) hp h)
  have HLO := Lib.hid (show ∀ p ∈ ps, p.1 < W from fun p hp' => by have := hp.lo p hp'; omega)
  have HA : ∀ ad, A = some ad → ad.block < w.heap.size := fun ad e => hblk ad.block (by rw [e1, e]; rfl)
  rw [e1] at hlook
  clear HF h6 hM1 h7 hown hp c0 c1 hx wx bx e1 hblk
  go_wp2_with fail
  go_loopw [20] (fun i wr => OfRel ps A W w z i wr) (fun i _ => ps.length - (RowKit.intOf i).toNat)
  case atStart => exact ⟨0, Nat.zero_le _, rfl, own, hr, hb1⟩
  case round =>
    clear own hr hb1 hlook c1'
    obtain ⟨k, hk, rfl, own, hr, hb1⟩ := hrel
    by_cases hlt : k < ps.length
    · obtain ⟨g, o, rfl, hc, hd⟩ := hr.part hlt
      have HX : Hid (ps[k]? = some ps[k]) := List.getElem?_eq_getElem hlt
      have hW0 := HLO.out ps[k] (List.getElem_mem _)
      generalize ps[k] = q at *
      obtain ⟨a, u⟩ := q
      simp only at hc hd hW0
      obtain ⟨G, d, rfl, hfz, hG, hGl⟩ := own_posS own (by omega)
      have hgl := HA _ rfl
      have hf := hfz a
      have HR := Lib.hid (fun o => of_round (o := o) HX.out own hr HA hb1)
      have hcz : ∀ o, (wr.alloc o).frozen? ⟨G, a, none⟩ = false := fun o => by
        have := (Below.refl wr.heap.size wr).alloc (Nat.le_refl _) o
        rw [this.frozen (p := ⟨G, a, none⟩) hGl]
        exact hf
      have hcell : ∃ y, wr.cell? ⟨G, a, none⟩ = some y := by
        obtain ⟨y, hy⟩ : ∃ y, (uv (fillV (ps.take k) W))[a]? = some y := ⟨_, List.getElem?_eq_getElem (by rw [uv_length, fillV_length]; exact hW0)⟩
        have := own.cells (g := G) rfl a y hy
        exact ⟨y, by simpa [Addr.add_lit] using this⟩
      obtain ⟨y, hy⟩ := hcell
      clear own hr hb1
      go_wp2_with fail
      exact ⟨HR.out _, by simp [RowKit.intOf]; omega⟩
    · have hkb : k = ps.length := by omega
      subst hkb
      rw [List.take_length] at own
      have HQ := Lib.hid (HFD.out _ _ own hb1)
      clear own hr hb1
      go_wp2_with fail
      go_ret
      exact HQ.out

theorem len_any (lo hi : Nat) (b : List Int) (v : Value) (w : World) (hm : Msk lo hi b w v) :
    Calls Try.prog 10 #[v] w fun e w' => e = .returned (.int .i64 (b.length : Int)) ∧ w = w' := by
  obtain ⟨p, B, r, f, rfl, h1, h2, h3, h4, h5, h6, h7⟩ := hm
  have c0 : w.cell? ⟨p, 0, none⟩ = some (.int .i64 (b.length : Int)) := by simp [World.cell?, h5]
  clear h5 h6 h7
  go_enter Try.func10, Try.ntmps10
  go_wp2_with fail
  go_ret
  exact ⟨rfl, rfl⟩

theorem mwords_any (lo hi : Nat) (b : List Int) (v : Value) (w : World) (hm : Msk lo hi b w v) :
    Calls Try.prog 11 #[v] w fun e w' => e = .returned (.int .i64 (wds b.length : Nat)) ∧ w = w' := by
  obtain ⟨p, B, r, f, rfl, h1, h2, h3, h4, h5, h6, h7⟩ := hm
  have c0 : w.cell? ⟨p, 0, none⟩ = some (.int .i64 (b.length : Int)) := by simp [World.cell?, h5]
  clear h5 h6 h7
  go_enter Try.func11, Try.ntmps11
  go_wp2_with fail
  refine (pwords b.length w).mono ?_
  rintro e w1 ⟨rfl, rfl⟩
  go_wp2_with fail
  go_ret
  exact ⟨rfl, rfl⟩

end Go.Proofs.Ythmfolekohomiaa
