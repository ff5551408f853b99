/-
  names.Find, names.Ids.
-/
import Derived.Test.YtjfiokcgmmmboaaNm6
import Derived.Test.YtjfiokcgmmmboaaNm2
namespace Go.Proofs.Ytjfiokcgmmmboaa
open Go.RowKit
open Go.Lib (compareBytes)
open Go.Sort (Holds grow putRow)

theorem row_sort {w : World} {g m : Nat} {d dk : Array (Tk w)} (hH : Holds Tk.enc w g 0 d) (hs : dk.size = d.size) {A : Option Addr} {l : Bs} (h : Row w A (bv l)) (os : Array Obj) : Row (sortWorld Tk.enc w g 0 m dk os) A (bv l) := fun hne => by
  obtain ⟨b, o, e, hx⟩ := h hne
  refine ⟨b, o, e, fun i v hv => ?_⟩
  have h1 := hx i v hv
  have hb := World.block_lt_of_cell? _ _ h1
  unfold sortWorld
  have e2 : (grow (putRow Tk.enc (Sort.ahead w m) g 0 dk) os).cell? ⟨b, o + i, none⟩ = (putRow Tk.enc (Sort.ahead w m) g 0 dk).cell? ⟨b, o + i, none⟩ := by
    apply World.cell?_of_block
    show ((putRow Tk.enc (Sort.ahead w m) g 0 dk).heap ++ os)[b]? = _
    rw [Array.getElem?_append_left (by rw [Sort.size_putRow]; exact hb)]
  rw [e2, Sort.cell?_putRow_other]
  · exact h1
  · by_cases hbg : b = g
    · subst hbg
      right
      right
      rcases Nat.lt_or_ge (o + i) d.size with hlt | hge
      · have h2 := (hH (o + i) hlt).1
        rw [Nat.zero_add, h1] at h2
        obtain ⟨u, _, rfl⟩ := List.mem_map.1 (List.mem_of_getElem? hv)
        obtain ⟨B, c, e3, _⟩ := (d[o + i]!).bs
        rw [e3] at h2
        cases h2
      · show 0 + dk.size ≤ o + i
        omega
    · exact .inl hbg

theorem Tk.compareT {w W : World} (x : Tk w) (B : Option Addr) (m d : Nat) (t : Bs) (hm : t.length = m) (hx : ∀ A l, Row w A (bv l) → Row W A (bv l)) (ht : Row w B (bv t)) :
    Calls Try.prog 26 (#[x.enc, .slice B m d] ++ #[]) W fun e w' => e = .returned (.int .i64 (compareBytes x.con t)) ∧ ∃ q os', w' = grow (W.drewN q) os' := by
  obtain ⟨A, c, e1, _, _, r1, _⟩ := x.bs
  rw [e1]
  exact (cmp_any A B _ _ c d x.con t W rfl hm (hx _ _ r1) (hx _ _ ht)).mono fun e w' ⟨he, hw⟩ => ⟨he, 0, #[], by rw [Sort.grow_empty]; exact hw.symm⟩

theorem below_SW {α : Type} [Inhabited α] {enc : α → Value} {w w' : World} {g : Nat} {d : Array α} (hH : Holds enc w g 0 d) (h : SW enc w g 0 d w') : Below w.heap.size w w' := by
  obtain ⟨n, os, rfl⟩ := h
  unfold sortWorld
  rw [Sort.putRow_self enc (Sort.ahead w n) g 0 d (fun j hj => hH j hj)]
  refine ⟨rfl, rfl, rfl, ?_, fun k hk => ?_⟩
  · show w.heap.size ≤ (w.heap ++ os).size
    simp
  · show (w.heap ++ os)[k]? = w.heap[k]?
    rw [Array.getElem?_append_left hk]

/-- What the search tells. -/
def Searched (ds : List Bs) (t : Bs) (w : World) (e : Ending) (w' : World) : Prop :=
  e = .returned (.tuple #[.int .i64 (rank ds t : Int), .bool (decide (t ∈ ds))]) ∧ Below w.heap.size w w'

theorem search_any (A B : Option Addr) (n c m d base : Nat) (xs : List Value) (ds : List Bs) (t : Bs) (w : World) (hn : ds.length = n) (hb : n ≤ 2147483648) (hm : t.length = m) (hown : w.ownsRow base 24 1 (.slice A n c) n xs) (hbs : BSs w xs ds) (ht : Row w B (bv t)) (hR : Rises ds) :
    Calls Try.prog 25 #[.slice A n c, .slice B m d, .func (.func 26) #[] #[]] w (Searched ds t w) := by
  by_cases h0 : n = 0
  · subst h0
    have hl : ds = [] := List.eq_nil_of_length_eq_zero hn
    subst hl
    have hS := Any.slices_BinarySearchFunc_none (P := Try.prog) (ρ := Try.searchL_ren) Try.searchL A c (.slice B m d) (.func (.func 26) #[] #[]) w
    change Calls Try.prog 25 _ _ _ at hS
    refine hS.mono ?_
    rintro e w' ⟨rfl, rfl⟩
    exact ⟨rfl, Below.refl _ _⟩
  · obtain ⟨g, rfl⟩ : ∃ g, A = some ⟨g, 0, none⟩ := by
      rcases hown.2 with ⟨_, h1⟩ | ⟨g, cap, cur, hv, _⟩
      · exact absurd h1 h0
      · exact ⟨g, by injection hv⟩
    have hgg := own_lt hown
    have hts := toTk_enc hbs
    have htc := toTk_con hbs
    have hsz : (toTk hbs).toArray.size = n := by
      have := congrArg List.length htc
      simp at this
      simp
      omega
    generalize toTk hbs = ts at *
    have hown' : w.ownsRow base 24 1 (.slice (some ⟨g, 0, none⟩) n c) n (ts.toArray.toList.map Tk.enc) := by simpa [hts] using hown
    have hH := holds_own hsz hown'
    have eg : ∀ args w, (callFunc 26 args).run Try.prog w = .ok (.enter 26 args) w := enters_of Try.func26 (by kernel_rfl) rfl
    have hcmp : CmpLaysT Try.prog 26 #[] Tk.enc (.slice B m d) (fun x : Tk w => compareBytes x.con t) g 0 ts.toArray.size w := fun q os dk hs x =>
      Tk.compareT x B m d t hm (fun A l h => row_sort hH hs h os) ht
    have hlen : ts.length = n := by simpa using hsz
    have hget : ∀ i (h : i < ts.length), ts[i].con = ds[i]'(by omega) := fun i h => by
      have e1 : (ts.map Tk.con)[i]? = ds[i]? := by rw [htc]
      rw [List.getElem?_map, List.getElem?_eq_getElem h, List.getElem?_eq_getElem (by omega)] at e1
      simpa using e1
    have hS := Any.slices_BinarySearchFunc Try.searchL Tk.enc Tk.one (.slice B m d) (fun x : Tk w => compareBytes x.con t) 26 #[] g 0 c ts.toArray w eg hcmp hH hgg.2 (by omega) (fun a b hab hb' hlt => by
      have hb2 : b < ts.length := by simpa using hb'
      rw [getElem!_pos ts.toArray b hb'] at hlt
      rw [getElem!_pos ts.toArray a (by omega)]
      simp only [List.getElem_toArray] at hlt ⊢
      rw [hget b hb2] at hlt
      rw [hget a (by omega)]
      rcases Nat.lt_or_ge a b with h | h
      · exact cb_trans (lb_iff.1 ((List.pairwise_iff_getElem.1 hR) a b (by omega) (by omega) h)) hlt
      · obtain rfl : a = b := by omega
        exact hlt)
    rw [hsz] at hS
    change Calls Try.prog 25 _ _ _ at hS
    refine hS.mono ?_
    rintro e w' ⟨rfl, hsw⟩
    refine ⟨?_, below_SW hH hsw⟩
    have hrank : List.countP (fun x : Tk w => decide (compareBytes x.con t < 0)) ts.toArray.toList = rank ds t := by
      unfold rank
      rw [← htc, List.countP_map]
      rfl
    rw [hrank]
    congr 4
    have hat : ∀ h : rank ds t < n, (ts.toArray[rank ds t]!).con = ds[rank ds t]'(by omega) := fun h => by
      rw [getElem!_pos ts.toArray _ (by simp; omega)]
      simpa using hget (rank ds t) (by omega)
    by_cases hin : t ∈ ds
    · obtain ⟨hk, e⟩ := rank_mem hR hin
      rw [decide_eq_true hin, decide_eq_true (show rank ds t < n by omega), hat (by omega), e, cb_self]
      rfl
    · rw [decide_eq_false hin]
      rcases Nat.lt_or_ge (rank ds t) n with h | h
      · rw [decide_eq_true h, hat h, Bool.true_and]
        congr 2
        rw [decide_eq_false_iff_not]
        intro e
        exact hin (by rw [← cb_zero e]; exact List.getElem_mem _)
      · rw [decide_eq_false (by omega), Bool.false_and]

/-- What names.Find leaves. -/
def Found (ds : List Bs) (t : Bs) (w : World) (e : Ending) (w' : World) : Prop :=
  e = .returned (.tuple #[.int .i64 ((fnd ds t).1 : Int), .bool (fnd ds t).2]) ∧ Below w.heap.size w w'

set_option maxHeartbeats 400000 in
theorem nmFind_any (A B : Option Addr) (n c m d base : Nat) (xs : List Value) (ds : List Bs) (t : Bs) (w : World) (hn : ds.length = n) (hb : n ≤ 2147483648) (hm : t.length = m) (hown : w.ownsRow base 24 1 (.slice A n c) n xs) (hbs : BSs w xs ds) (ht : Row w B (bv t)) (hR : Rises ds) :
    Calls Try.prog 10 #[.slice A n c, .slice B m d] w (Found ds t w) := by
  have HS := Lib.hid (search_any A B n c m d base xs ds t w hn hb hm hown hbs ht hR)
  have hrl := rank_le ds t
  clear hown hbs ht hR hm
  rw [hn] at hrl
  clear hn
  by_cases hin : t ∈ ds
  · have HF := Lib.hid (fnd_yes hin)
    have HD : Hid (decide (t ∈ ds) = true) := decide_eq_true hin
    clear hin
    go_enter Try.func10, Try.ntmps10
    go_wp2_with fail
    refine HS.out.mono ?_
    rintro e w1 ⟨rfl, hb1⟩
    rw [HD.out]
    have R : Found ds t w (.returned (.tuple #[.int .i64 (rank ds t : Int), .bool true])) w1 := ⟨by rw [HF.out], hb1⟩
    clear hb1
    go_wp2_with fail
    go_ret2
    exact R
  · have HF := Lib.hid (fnd_no hin)
    have HD : Hid (decide (t ∈ ds) = false) := decide_eq_false hin
    clear hin
    go_enter Try.func10, Try.ntmps10
    go_wp2_with fail
    refine HS.out.mono ?_
    rintro e w1 ⟨rfl, hb1⟩
    rw [HD.out]
    have R : Found ds t w (.returned (.tuple #[.int .i64 0, .bool false])) w1 := ⟨by rw [HF.out]; rfl, hb1⟩
    clear hb1
    go_wp2_with fail
    go_ret2
    exact R

set_option maxHeartbeats 1600000 in
theorem nmIds_any (A A' : Option Addr) (n c n' c' base : Nat) (xs vs : List Value) (ds ms : List Bs) (w : World) (hn : ds.length = n) (hb : n ≤ 2147483648) (hn' : ms.length = n') (hb' : n' ≤ 2147483648) (hown0 : w.ownsRow base 24 1 (.slice A n c) n xs) (hbs : BSs w xs ds) (hr' : Row w A' vs) (hbs' : BSs w vs ms) (hR : Rises ds) :
    Calls Try.prog 11 #[.slice A n c, .slice A' n' c'] w (IdsMade ds ms w) := by
  obtain ⟨i0, hi, hz0, hz1, hz2⟩ := info_parts Try.infoInt
  subst hn'
  have HN := Lib.hid hn
  have HR := Lib.hid hR
  clear hn hR
  go_enter Try.func11, Try.ntmps11
  go_wp2_with (at_make; refine wpList_make_own _ rfl _ _ 27 rfl w.heap.size 3 i0 (.int .i64 0) 1 Try.underlying27 hi hz0 hz1 .i64 .i64 _ ms.length rfl rfl rfl (by rw [hz2]; omega) (by unfold maxLen; omega) (Nat.le_refl _) ?_)
  intro w1 hown1 hg1
  have hb1 : Below w.heap.size w w1 := (Below.refl _ _).grown hg1 (Nat.le_refl _) (fun k hk => by cases hk)
  clear hg1
  go_wp2_with fail
  go_loopw [6, 16] (fun v i wr => IdsRel ds ms w v i wr) (fun _ i _ => ms.length - (intOf i).toNat)
  case atStart => exact ⟨0, Nat.zero_le _, rfl, by simp [allIn], hown1, hb1⟩
  case round =>
    clear hown1 hb1
    obtain ⟨k, hk, rfl, hall, hown, hbr⟩ := hrel
    have HA := Lib.hid hall
    clear hall
    by_cases hlt : k < ms.length
    · obtain ⟨g, o, B, cB, rfl, hc, h1, h2, h3, h4⟩ := BSs.cell (hr'.below hbr) (hbs'.below hbr) hlt
      have hsz := hbr.size
      by_cases hm : ms[k] ∈ ds
      · have hf := Lib.hid (fnd_yes hm)
        have hrl := rank_le ds ms[k]
        go_wp2_with fail
        refine (nmFind_any A B n c _ cB base xs ds ms[k] _ HN.out hb rfl (own_below hown0 hbr (Nat.le_refl _)) (hbs.below hbr) h3 HR.out).mono ?_
        rintro e w2 ⟨rfl, hb2⟩
        rw [hf.out]
        have hown2 := own_below hown hb2 (Nat.le_refl _)
        have hbr2 := hbr.trans (hb2.mono hsz)
        have hsz2 := hbr2.size
        clear hown hbr hb2 hc h3
        go_wp2_with (at_builtin; refine wpList_append_own _ rfl (.tmp 28) (.tmp 30) 27 rfl w.heap.size 3 i0 (.int .i64 0) 1 8 Try.underlying27 hi hz0 hz1 hz2 rfl (by decide) _ _ _ rfl (hown2.alloc _) ⟨w2.heap.size, 0, none⟩ 1 1 [_] rfl rfl (cell_one_new _ _ _) (one_int _ _) (by unfold maxLen; omega) (by omega) (by simp; omega) ?_)
        intro v' w3 hown' hg' _
        have R : IdsRel ds ms w v' (.int .i64 (k + 1 : Nat)) w3 := by
          refine ⟨k + 1, by omega, rfl, allIn_snoc hlt HA.out hm, ?_, ?_⟩
          · rw [idsOf_snoc ds ms hlt, iv_append]
            exact hown'
          · exact (hbr2.alloc (by omega) _).grown hg' (by simp; omega) (fun x hx => (hown2.lt x hx).1)
        clear hown' hg' hown2
        go_wp2_with fail
        go_roundw
        case rel => exact R
        case measure => simp [intOf]; omega
      · have hf := Lib.hid (fnd_no hm)
        have HF := Lib.hid (allIn_not hlt hm)
        go_wp2_with fail
        refine (nmFind_any A B n c _ cB base xs ds ms[k] _ HN.out hb rfl (own_below hown0 hbr (Nat.le_refl _)) (hbs.below hbr) h3 HR.out).mono ?_
        rintro e w2 ⟨rfl, hb2⟩
        rw [hf.out]
        have R := ids_fail (w := w) HF.out (hbr.trans (hb2.mono hsz))
        clear hown hbr hb2 hc h3
        go_wp2_with fail
        go_ret2
        exact R
    · have he : k = ms.length := by omega
      subst he
      have HA' := HA.out
      rw [List.take_length] at HA' hown
      have HF := Lib.hid (ids_done (w := w) HA' hown hbr)
      clear hown HA'
      go_wp2_with fail
      go_ret2
      exact HF.out

end Go.Proofs.Ytjfiokcgmmmboaa
