/-
  slices.SortFunc over tokens, with bytes.Compare; names.copied, names.distinct, names.Sort.
-/
import Derived.Test.YtjfiokcgmmmboaaNm3
import Derived.Test.YtjfiokcgmmmboaaNm4
import Derived.Test.YtjfiokcgmmmboaaLay2
namespace Go.Proofs.Ytjfiokcgmmmboaa
open Go.RowKit
open Go.Lib (compareBytes)
open Go.Sort (SWO)

/-- A token that lies in w. -/
structure Tk (w : World) where
  enc : Value
  con : Bs
  bs : BS w enc con
instance (w : World) : Inhabited (Tk w) := ⟨⟨.slice none 0 0, [], ⟨none, 0, rfl, Nat.le_refl _, Nat.zero_le _, Row.nil _ _, fun _ => rfl⟩⟩⟩
def Tk.cf {w : World} (x y : Tk w) : Int := compareBytes x.con y.con
theorem Tk.lt {w : World} (x y : Tk w) : ltOf Tk.cf x y = lb x.con y.con := rfl
theorem Tk.swo (w : World) : SWO (ltOf (Tk.cf (w := w))) where
  irrefl x := by rw [Tk.lt]; exact lb_irrefl _
  trans x y z h1 h2 := by rw [Tk.lt] at *; exact lb_trans h1 h2
  ntrans x y z h1 h2 := by rw [Tk.lt] at *; exact lb_ntrans h1 h2
theorem Tk.one {w : World} (t : Tk w) : t.enc.oneCell' = true := by
  obtain ⟨A, c, e, _⟩ := t.bs
  rw [e]
  rfl

/-- bytes.Compare in whatever world that has turned nothing of w. -/
theorem Tk.compare {w W : World} (hb : Below w.heap.size w W) (x y : Tk w) :
    Calls Try.prog 26 (#[x.enc, y.enc] ++ #[]) W fun e w' => e = .returned (.int .i64 (Tk.cf x y)) ∧ ∃ q, w' = W.drewN q := by
  obtain ⟨A, c, e1, _, _, r1, _⟩ := x.bs
  obtain ⟨B, d, e2, _, _, r2, _⟩ := y.bs
  rw [e1, e2]
  exact (cmp_any A B _ _ c d x.con y.con W rfl rfl (r1.below hb) (r2.below hb)).mono fun e w' ⟨he, hw⟩ => ⟨he, 0, hw.symm⟩

/-- The tokens of a list, each with what it reads. -/
def toTk {w : World} {vs : List Value} {ls : List Bs} (h : BSs w vs ls) : List (Tk w) :=
  (vs.zip ls).pmap (fun p hp => (⟨p.1, p.2, hp⟩ : Tk w)) fun p hp => by
    obtain ⟨i, hi, e⟩ := List.mem_iff_getElem.1 hp
    rw [List.length_zip] at hi
    rw [List.getElem_zip] at e
    subst e
    exact h.2 i _ _ (List.getElem?_eq_getElem (by omega)) (List.getElem?_eq_getElem (by omega))
theorem toTk_enc {w : World} {vs : List Value} {ls : List Bs} (h : BSs w vs ls) : (toTk h).map Tk.enc = vs := by
  unfold toTk
  rw [List.map_pmap]
  show (vs.zip ls).pmap (fun p _ => p.1) _ = vs
  rw [List.pmap_eq_map, List.map_fst_zip (by rw [h.1]; exact Nat.le_refl _)]
theorem toTk_con {w : World} {vs : List Value} {ls : List Bs} (h : BSs w vs ls) : (toTk h).map Tk.con = ls := by
  unfold toTk
  rw [List.map_pmap]
  show (vs.zip ls).pmap (fun p _ => p.2) _ = ls
  rw [List.pmap_eq_map, List.map_snd_zip (by rw [h.1]; exact Nat.le_refl _)]
theorem tk_bss {w : World} (ts : List (Tk w)) : BSs w (ts.map Tk.enc) (ts.map Tk.con) := by
  refine ⟨by simp, fun i v l hv hl => ?_⟩
  rw [List.getElem?_map] at hv hl
  obtain ⟨t, ht, rfl⟩ := Option.map_eq_some_iff.1 hv
  rw [ht] at hl
  simp only [Option.map_some, Option.some.injEq] at hl
  subst hl
  exact t.bs

/-- What the sort leaves. -/
def SortedT (g n : Nat) (ls : List Bs) (w : World) (e : Ending) (W' : World) : Prop :=
  e = .returned (.tuple #[]) ∧ ∃ ys ms, W'.ownsRow w.heap.size 24 1 (.slice (some ⟨g, 0, none⟩) n n) n ys ∧ BSs w ys ms ∧ ms.length = n ∧ (∀ t, t ∈ ms ↔ t ∈ ls) ∧ ms.Pairwise (fun a b => lb b a = false) ∧ Below w.heap.size w W'

theorem sortT_any (g n : Nat) (vs : List Value) (ls : List Bs) (w W : World) (hn : ls.length = n) (hb : n ≤ 2147483648) (hown : W.ownsRow w.heap.size 24 1 (.slice (some ⟨g, 0, none⟩) n n) n vs) (hbs : BSs w vs ls) (hbW : Below w.heap.size w W) :
    Calls Try.prog 28 #[.slice (some ⟨g, 0, none⟩) n n, .func (.func 26) #[] #[]] W (SortedT g n ls w) := by
  have hgg := own_lt hown
  by_cases h0 : n = 0
  · subst h0
    have hl : ls = [] := List.eq_nil_of_length_eq_zero hn
    subst hl
    have hS := AnyF.slices_SortFunc_none (P := Try.prog) (ρ := Try.sortL_ren) { Try.sortL with } (some ⟨g, 0, none⟩) 0 (.func (.func 26) #[] #[]) W
    change Calls Try.prog 28 _ _ _ at hS
    refine hS.mono ?_
    rintro e w' ⟨rfl, rfl⟩
    exact ⟨rfl, vs, [], hown, hbs, rfl, fun t => Iff.rfl, List.Pairwise.nil, hbW⟩
  · have hts := toTk_enc hbs
    have htc := toTk_con hbs
    have hsz : (toTk hbs).toArray.size = n := by
      have := congrArg List.length htc
      simp at this
      simp
      omega
    generalize toTk hbs = ts at *
    have hown' : W.ownsRow w.heap.size 24 1 (.slice (some ⟨g, 0, none⟩) n n) n (ts.toArray.toList.map Tk.enc) := by simpa [hts] using hown
    have eg : ∀ args w, (callFunc 26 args).run Try.prog w = .ok (.enter 26 args) w := enters_of Try.func26 (by kernel_rfl) rfl
    have hcmp : CmpReads Try.prog 26 #[] Tk.enc (Tk.cf (w := w)) g 0 ts.toArray.size W := fun m os dk hs x y =>
      Tk.compare (below_sort hbW hbW.size hgg.1 0 m dk os) x y
    have hS := Any.slices_SortFunc Try.sortL Tk.enc Tk.one Tk.cf (Tk.swo w) 26 #[] g 0 n ts.toArray W eg hcmp.lays (holds_own hsz hown') hgg.2 (by omega)
    rw [hsz] at hS
    change Calls Try.prog 28 _ _ _ at hS
    refine hS.mono ?_
    rintro e w' ⟨rfl, d', q, os, hp, hs, rfl⟩
    have hd' : d'.size = n := by rw [hp.1, hsz]
    have hperm : d'.toList.Perm ts := by
      have h := hp.2.2
      rw [← hsz] at h
      have e1 : ts.toArray.extract 0 ts.toArray.size = ts.toArray := by simp
      have e2 : d'.extract 0 ts.toArray.size = d' := by rw [hsz, ← hd']; simp
      rw [e1, e2] at h
      simpa using h
    refine ⟨rfl, d'.toList.map Tk.enc, d'.toList.map Tk.con, own_sort hown q d' os hd', tk_bss _, by simp [hd'], fun t => ?_, ?_, below_sort hbW hbW.size hgg.1 0 q d' os⟩
    · rw [← htc]
      simp only [List.mem_map]
      constructor
      · rintro ⟨x, hx, rfl⟩; exact ⟨x, hperm.subset hx, rfl⟩
      · rintro ⟨x, hx, rfl⟩; exact ⟨x, hperm.symm.subset hx, rfl⟩
    · rw [List.pairwise_iff_getElem]
      intro i j hi hj hij
      simp only [List.length_map, Array.length_toList] at hi hj
      have h := hs i j (Nat.zero_le _) hij (by omega)
      rw [Tk.lt, getElem!_pos d' i hi, getElem!_pos d' j hj] at h
      simpa using h

set_option maxHeartbeats 400000 in
theorem nmCopied_any (A : Option Addr) (n c : Nat) (l : List UInt8) (w : World) (hn : l.length = n) (hb : n ≤ 2147483648) (hr : Row w A (bv l)) :
    Calls Try.prog 24 #[.slice A n c] w (MadeB l w) := by
  obtain ⟨i0, hi, hz0, hz1, hz2⟩ := info_parts Try.infoU8
  subst hn
  go_enter Try.func24, Try.ntmps24
  go_wp2_with (at_make; refine wpList_make_full _ rfl _ _ 24 rfl w.heap.size 5 i0 (.int .u8 0) 1 Try.underlying24 hi hz0 hz1 .i64 .i64 _ _ l.length rfl rfl rfl rfl (by rw [hz2]; omega) (by unfold maxLen; omega) (Nat.le_refl _) ?_)
  intro w1 hown hg
  obtain ⟨cur, hh, hcl⟩ := own_heap hown
  have HH := Lib.hid hh
  have HC := Lib.hid hcl
  have hb1 : Below w.heap.size w w1 := (Below.refl _ _).grown hg (Nat.le_refl _) (fun k hk => by cases hk)
  have hr1 := hr.below hb1
  clear hh hown hcl hg
  go_wp2_with (with_reducible refine wpList_copy_splice rfl (.tmp 7) (.tmp 8) 24 24 rfl 5 Try.underlying24 Try.infoU8s (some ⟨w.heap.size, 0, none⟩) A l.length l.length l.length c rfl rfl w.heap.size 0 cur 5 HH.out (bv l) (by rw [bv_length]; simp) (fun hp => ⟨rfl, ?_⟩) (by rw [bv_length, HC.out]; omega) (bv_one l) w.heap.size w hb1 (Nat.le_refl _) ?_)
  · obtain ⟨g, o, e, hc⟩ := hr1 (by intro e; rw [e] at hp; simp at hp)
    exact ⟨_, e, fun j v hv => by rw [Addr.add_lit]; exact hc j v hv⟩
  · intro w2 h2 hb2
    go_wp2_with fail
    go_ret
    refine ⟨_, rfl, ?_, hb2⟩
    have h3 := h2.out
    rw [splice_all _ _ (by rw [bv_length, HC.out])] at h3
    exact own_of_heap (Nat.le_refl _) (by unfold maxLen; omega) (bv_length l) h3

theorem Try.infoBss : (Try.prog.info? 24).map (·.size) = some 1 := by kernel_rfl

set_option maxHeartbeats 800000 in
theorem distinct_any (A : Option Addr) (n c : Nat) (vs : List Value) (ls : List Bs) (w : World) (hn : ls.length = n) (hb : n ≤ 2147483648) (hr : Row w A vs) (hbs : BSs w vs ls) :
    Calls Try.prog 23 #[.slice A n c] w (MadeT (sortU ls) w) := by
  obtain ⟨i0, hi, hz0, hz1, hz2⟩ := info_parts Try.infoBs
  subst hn
  have hvl := hbs.1
  have HV := Lib.hid hvl
  clear hvl
  go_enter Try.func23, Try.ntmps23
  go_wp2_with (at_make; refine wpList_make_full _ rfl _ _ 22 rfl w.heap.size 24 i0 (.slice none 0 0) 1 Try.underlying22 hi hz0 hz1 .i64 .i64 _ _ ls.length rfl rfl rfl rfl (by rw [hz2]; omega) (by unfold maxLen; omega) (Nat.le_refl _) ?_)
  intro w1 hown hg
  obtain ⟨cur, hh, hcl⟩ := own_heap hown
  have HH := Lib.hid hh
  have HC := Lib.hid hcl
  have hb1 : Below w.heap.size w w1 := (Below.refl _ _).grown hg (Nat.le_refl _) (fun k hk => by cases hk)
  have hr1 := hr.below hb1
  clear hh hown hcl hg
  go_wp2_with (with_reducible refine wpList_copy_splice rfl (.tmp 7) (.tmp 8) 22 22 rfl 24 Try.underlying22 Try.infoBss (some ⟨w.heap.size, 0, none⟩) A ls.length ls.length ls.length c rfl rfl w.heap.size 0 cur 24 HH.out vs (by rw [HV.out]; simp) (fun hp => ⟨rfl, ?_⟩) (by rw [HV.out, HC.out]; omega) hbs.one w.heap.size w hb1 (Nat.le_refl _) ?_)
  · obtain ⟨g, o, e, hc⟩ := hr1 (by intro e; rw [e] at hp; simp at hp)
    exact ⟨_, e, fun j v hv => by rw [Addr.add_lit]; exact hc j v hv⟩
  · intro w2 h2 hb2
    have h3 := h2.out
    rw [splice_all _ _ (by rw [HV.out, HC.out])] at h3
    have hown2 : w2.ownsRow w.heap.size 24 1 (.slice (some ⟨w.heap.size, 0, none⟩) ls.length ls.length) ls.length vs := own_of_heap (Nat.le_refl _) (by unfold maxLen; omega) HV.out h3
    clear h3 h2 hr1 hb1 HH HC
    go_wp2_with fail
    refine (sortT_any w.heap.size _ vs ls w w2 rfl hb hown2 hbs hb2).mono ?_
    rintro e w3 ⟨rfl, ys, ms, hown3, hbs3, hml, hmem, hpw, hb3⟩
    have HP := Lib.hid (compact_sorted hpw hmem)
    have HM := Lib.hid hml
    clear hmem hpw hml hown2 hb2
    go_wp2_with fail
    refine (compactF_any w.heap.size _ _ ys ms w w3 HM.out hb hown3 hbs3 hb3).mono ?_
    rintro e w4 ⟨v, xs, rfl, hown4, hbs4, hb4⟩
    rw [HP.out] at hown4 hbs4
    have R : MadeT (sortU ls) w (.returned v) w4 := ⟨v, xs, rfl, hown4, hbs4, hb4⟩
    obtain ⟨V, cv, rfl, _⟩ := own_slice hown4
    clear hown4 hbs4 hb4 hown3 hbs3 hb3
    go_wp2_with fail
    go_ret
    exact R

end Go.Proofs.Ytjfiokcgmmmboaa
