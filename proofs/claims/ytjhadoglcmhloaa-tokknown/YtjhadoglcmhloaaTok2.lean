/-
  Contracts of package tok. (Part 2: those that make memory.)
-/
import Derived.Test.YtjhadoglcmhloaaTok1
namespace Go.Proofs.Ytjhadoglcmhloaa
open Go.RowKit

theorem Try.infoU8 : (Try.prog.info? 5).map (fun i => (i.zero, i.size, i.bytes)) = some (some (.int .u8 0), 1, 1) := by kernel_rfl
theorem Try.infoU8s : (Try.prog.info? 5).map (·.size) = some 1 := by kernel_rfl
theorem Try.infoBs : (Try.prog.info? 27).map (fun i => (i.zero, i.size, i.bytes)) = some (some (.slice none 0 0), 1, 24) := by kernel_rfl
theorem Try.infoInt : (Try.prog.info? 3).map (fun i => (i.zero, i.size, i.bytes)) = some (some (.int .i64 0), 1, 8) := by kernel_rfl

/-- A byte slice that the call made: a row of its own from block B on. -/
def OwnB (B : Nat) (w : World) (v : Value) (l : List UInt8) : Prop := w.ownsRow B 5 1 v l.length (bv l)
theorem OwnB.form {B : Nat} {w : World} {v : Value} {l : List UInt8} (h : OwnB B w v l) : ∃ A c, v = .slice A l.length c ∧ l.length ≤ c ∧ c ≤ maxLen ∧ Row w A (bv l) ∧ (A = none → c = 0) := by
  rcases h.2 with ⟨e, h0⟩ | ⟨g, cap, cur, hv, _, _, h1, h2, _⟩
  · have hl : l = [] := List.eq_nil_of_length_eq_zero h0
    subst hl
    exact ⟨none, 0, by rw [e]; rfl, by simp, Nat.zero_le _, Row.nil _ _, fun _ => rfl⟩
  · subst hv
    exact ⟨_, cap, rfl, h1, h2, Row.of_own h, fun e => by cases e⟩
theorem OwnB.isSlice {B : Nat} {w : World} {v : Value} {l : List UInt8} (h : OwnB B w v l) : ∃ A n c, v = .slice A n c := by
  obtain ⟨A, c, e, _⟩ := h.form
  exact ⟨A, _, c, e⟩
theorem OwnB.bs {B : Nat} {w : World} {v : Value} {l : List UInt8} (h : OwnB B w v l) : BS w v l := h.form

/-- What a call leaves that returns new bytes. -/
def MadeB (l : List UInt8) (w : World) (e : Ending) (w' : World) : Prop := ∃ v, e = .returned v ∧ OwnB w.heap.size w' v l ∧ Below w.heap.size w w'

theorem own_heap {w : World} {B g n cap : Nat} {e : TypeId} {us : List Value} (h : w.ownsRow B e 1 (.slice (some ⟨g, 0, none⟩) n cap) n us) :
    ∃ cur : List Value, w.heap[g]? = some (.cells cur.toArray e (0, 0)) ∧ cur.length = cap := by
  rcases h.2 with ⟨e, _⟩ | ⟨g', cap', cur, hv, _, hh, _, _, hs, _⟩
  · cases e
  · simp only [Value.slice.injEq, Option.some.injEq, Addr.mk.injEq] at hv
    obtain ⟨⟨rfl, _, _⟩, _, rfl⟩ := hv
    exact ⟨cur.toList, by simpa using hh, by simpa using hs⟩

theorem own_of_heap {w : World} {B g n : Nat} {e : TypeId} {us : List Value} (hB : B ≤ g) (hm : n ≤ maxLen) (hn : us.length = n) (h : w.heap[g]? = some (.cells us.toArray e (0, 0))) :
    w.ownsRow B e 1 (.slice (some ⟨g, 0, none⟩) n n) n us :=
  ⟨by omega, .inr ⟨g, n, us.toArray, rfl, hB, h, Nat.le_refl _, hm, by simp [hn], by simp [← hn]⟩⟩

theorem splice_all {α : Type} (L cs : List α) (h : L.length = cs.length) : splice L 0 cs = cs := by
  unfold splice
  simp [← h]

set_option maxHeartbeats 400000 in
theorem copied_any (A : Option Addr) (n c : Nat) (l : List UInt8) (w : World) (hn : l.length = n) (hb : n ≤ 2147483648) (hr : Row w A (bv l)) :
    Calls Try.prog 22 #[.slice A n c] w (MadeB l w) := by
  obtain ⟨i0, hi, hz0, hz1, hz2⟩ := info_parts Try.infoU8
  subst hn
  go_enter Try.func22, Try.ntmps22
  go_wp2_with (at_make; refine wpList_make_full _ rfl _ _ 27 rfl w.heap.size 5 i0 (.int .u8 0) 1 Try.underlying27 hi hz0 hz1 .i64 .i64 _ _ l.length rfl rfl rfl rfl (by rw [hz2]; omega) (by unfold maxLen; omega) (Nat.le_refl _) ?_)
  intro w1 hown hg
  obtain ⟨cur, hh, hcl⟩ := own_heap hown
  have HH := Lib.hid hh
  have HC := Lib.hid hcl
  have hb1 : Below w.heap.size w w1 := (Below.refl _ _).grown hg (Nat.le_refl _) (fun k hk => by cases hk)
  have hr1 := hr.below hb1
  clear hh hown hcl hg
  go_wp2_with (with_reducible refine wpList_copy_splice rfl (.tmp 7) (.tmp 8) 27 27 rfl 5 Try.underlying27 Try.infoU8s (some ⟨w.heap.size, 0, none⟩) A l.length l.length l.length c rfl rfl w.heap.size 0 cur 5 HH.out (bv l) (by rw [bv_length]; simp) (fun hp => ⟨rfl, ?_⟩) (by rw [bv_length, HC.out]; omega) (bv_one l) w.heap.size w hb1 (Nat.le_refl _) ?_)
  · obtain ⟨g, o, e, hc⟩ := hr1 (by intro e; rw [e] at hp; simp at hp)
    exact ⟨_, e, fun j v hv => by rw [Addr.add_lit]; exact hc j v hv⟩
  · intro w2 h2 hb2
    go_wp2_with fail
    go_ret
    refine ⟨_, rfl, ?_, hb2⟩
    have h3 := h2.out
    rw [splice_all _ _ (by rw [bv_length, HC.out])] at h3
    exact own_of_heap (Nat.le_refl _) (by unfold maxLen; omega) (bv_length l) h3

theorem one_slice (A : Option Addr) (n c : Nat) : ∀ u ∈ [Value.slice A n c], u.oneCell' = true := by
  intro u hu
  rw [List.mem_singleton] at hu
  subst hu
  rfl
theorem one_int (k : IntKind) (x : Int) : ∀ u ∈ [Value.int k x], u.oneCell' = true := by
  intro u hu
  rw [List.mem_singleton] at hu
  subst hu
  rfl

/-- A list of byte slices that the call made, each a row of its own. -/
def OwnBs (B : Nat) (w : World) (vs : List Value) (ls : List (List UInt8)) : Prop := vs.length = ls.length ∧ ∀ (i : Nat) v l, vs[i]? = some v → ls[i]? = some l → OwnB B w v l
theorem OwnBs.nil (B : Nat) (w : World) : OwnBs B w [] [] := ⟨rfl, fun i v l hv => by simp at hv⟩
theorem OwnBs.map {B B' : Nat} {w w' : World} {vs : List Value} {ls : List (List UInt8)} (h : OwnBs B w vs ls) (hk : ∀ v l, OwnB B w v l → OwnB B' w' v l) : OwnBs B' w' vs ls :=
  ⟨h.1, fun i v l hv hl => hk v l (h.2 i v l hv hl)⟩
theorem OwnBs.bss {B : Nat} {w : World} {vs : List Value} {ls : List (List UInt8)} (h : OwnBs B w vs ls) : BSs w vs ls := ⟨h.1, fun i v l hv hl => (h.2 i v l hv hl).bs⟩
theorem OwnBs.snoc {B : Nat} {w : World} {vs : List Value} {ls : List (List UInt8)} {v : Value} {l : List UInt8} (h : OwnBs B w vs ls) (hv : OwnB B w v l) : OwnBs B w (vs ++ [v]) (ls ++ [l]) := by
  refine ⟨by simp [h.1], fun i u m hu hm => ?_⟩
  rcases Nat.lt_or_ge i vs.length with hi | hi
  · rw [List.getElem?_append_left hi] at hu
    rw [List.getElem?_append_left (by rw [← h.1]; exact hi)] at hm
    exact h.2 i u m hu hm
  · rw [List.getElem?_append_right hi] at hu
    rw [List.getElem?_append_right (by rw [← h.1]; exact hi)] at hm
    have e0 : i - vs.length = 0 := by
      have := (List.getElem?_eq_some_iff.1 hu).1
      simpa using this
    rw [e0] at hu
    rw [← h.1, e0] at hm
    simp at hu hm
    subst hu; subst hm
    exact hv

/-- A row of bytes is kept where a row of another element type is written. -/
theorem own_ne {w : World} {B B' n n' : Nat} {e e' : TypeId} {v v' : Value} {us us' : List Value} (h : w.ownsRow B e 1 v n us) (h' : w.ownsRow B' e' 1 v' n' us') (hne : e ≠ e') : v.ownBlock = none ∨ v.ownBlock ≠ v'.ownBlock := by
  rcases h.2 with ⟨rfl, _⟩ | ⟨g, cap, cur, rfl, _, hh, _⟩
  · exact .inl rfl
  right
  rcases h'.2 with ⟨rfl, _⟩ | ⟨g', cap', cur', rfl, _, hh', _⟩
  · simp [Value.ownBlock]
  · intro he
    have : g = g' := by simpa [Value.ownBlock] using he
    subst this
    rw [hh] at hh'
    simp only [Option.some.injEq, Obj.cells.injEq] at hh'
    exact hne hh'.2.1

theorem own_below {w w' : World} {B B' n : Nat} {e : TypeId} {v : Value} {us : List Value} (h : w.ownsRow B e 1 v n us) (hb : Below w.heap.size w w') (hB : B' ≤ B) : w'.ownsRow B' e 1 v n us := by
  refine ⟨h.1, ?_⟩
  rcases h.2 with h0 | ⟨g, cap, cur, hv, hg, hh, r⟩
  · exact .inl h0
  · exact .inr ⟨g, cap, cur, hv, by omega, by rw [hb.block g (Array.getElem?_eq_some_iff.1 hh).1]; exact hh, r⟩

theorem own_lower {w : World} {B B' n : Nat} {e : TypeId} {v : Value} {us : List Value} (h : w.ownsRow B e 1 v n us) (hB : B' ≤ B) : w.ownsRow B' e 1 v n us := own_below h (Below.refl _ _) hB

/-- What tok.Cut leaves, of a mode that is none. -/
theorem cut_no (m : Int) (v : Value) (w : World) (hv : (m == 0 || m == 1) = false) :
    Calls Try.prog 10 #[.int .i64 m, v] w fun e w' => e = .returned (.tuple #[.slice none 0 0, .int .i64 1]) ∧ w = w' := by
  go_enter Try.func10, Try.ntmps10
  go_wp2_with fail
  refine (count_no m v _ hv).mono ?_
  rintro e w' ⟨rfl, rfl⟩
  go_wp2_with fail
  go_ret2
  exact ⟨rfl, rfl⟩

/-- What a call leaves that returns new tokens. -/
def MadeToks (ls : List (List UInt8)) (w : World) (e : Ending) (w' : World) : Prop :=
  ∃ v vs, e = .returned (.tuple #[v, .int .i64 0]) ∧ w'.ownsRow w.heap.size 27 1 v ls.length vs ∧ OwnBs w.heap.size w' vs ls ∧ Below w.heap.size w w'

def CutRel (m : Int) (l : List UInt8) (w : World) (v i : Value) (wr : World) : Prop :=
  ∃ (f : Nat) (ts : List (List UInt8)) (vs : List Value), f ≤ l.length ∧ i = .int .i64 f ∧ wr.ownsRow w.heap.size 27 1 v ts.length vs ∧ OwnBs w.heap.size wr vs ts ∧ Below w.heap.size w wr ∧ ts ++ cut m (l.drop f) = cut m l

/-- One token more: the relation behind the append. -/
theorem cut_round {m : Int} {l : List UInt8} {w wr w1 w2 : World} {f : Nat} {ts : List (List UInt8)} {vs : List Value} {v v' u : Value} (hlt : f < l.length)
    (hown : wr.ownsRow w.heap.size 27 1 v ts.length vs) (hbs : OwnBs w.heap.size wr vs ts) (hb : Below w.heap.size w wr) (he : ts ++ cut m (l.drop f) = cut m l)
    (hu : OwnB wr.heap.size w1 u ((l.drop f).take (tlen m (l.drop f)))) (hb1 : Below wr.heap.size wr w1)
    (hown' : w2.ownsRow w.heap.size 27 1 v' (ts.length + 1) (vs ++ [u])) (hg : (w1.alloc (.cells #[u] 27)).grownBy w2 v.ownBlock) :
    CutRel m l w v' (.int .i64 (f + tlen m (l.drop f) : Nat)) w2 := by
  have hs := hb.size
  have hs1 := hb1.size
  have h2 : f + tlen m (l.drop f) ≤ l.length := by have := tlen_le (m := m) (drop_ne hlt); rw [List.length_drop] at this; omega
  have hown1 : (w1.alloc (.cells #[u] 27)).ownsRow w.heap.size 27 1 v ts.length vs := (own_below hown hb1 (Nat.le_refl _)).alloc _
  have kept : ∀ (x : Value) (q : List UInt8), OwnB w.heap.size w1 x q → OwnB w.heap.size w2 x q := fun x q hq =>
    World.ownsRow.kept (World.ownsRow.alloc hq (.cells #[u] 27)) hg (own_ne (World.ownsRow.alloc hq _) hown1 (by decide))
  refine ⟨_, ts ++ [(l.drop f).take (tlen m (l.drop f))], vs ++ [u], h2, rfl, by simpa using hown', ?_, ?_, ?_⟩
  · exact OwnBs.snoc (hbs.map fun x q hq => kept x q (own_below hq hb1 (Nat.le_refl _))) (kept _ _ (own_lower hu hs))
  · refine ((hb.trans (hb1.mono hs)).alloc (by omega) (.cells #[u] 27)).grown hg (by simp; omega) (fun k hk => ?_)
    exact (hown.lt k hk).1
  · rw [List.append_assoc, List.singleton_append, ← cut_at m l f hlt, he]

set_option maxHeartbeats 800000 in
theorem cut_yes (m : Int) (A : Option Addr) (n c : Nat) (l : List UInt8) (w : World) (hn : l.length = n) (hc : n ≤ c) (hb : n ≤ 2147483648) (hr : Row w A (bv l)) (hv : (m == 0 || m == 1) = true) :
    Calls Try.prog 10 #[.int .i64 m, .slice A n c] w (MadeToks (cut m l) w) := by
  obtain ⟨i0, hi, hz0, hz1, hz2⟩ := info_parts Try.infoBs
  subst hn
  have hcl := cut_len m l
  have hv' := Lib.hid hv
  clear hv
  go_enter Try.func10, Try.ntmps10
  go_wp2_with fail
  refine (count_yes m A _ c l _ rfl (by unfold maxLen; omega) hr hv'.out).mono ?_
  rintro e w' ⟨rfl, rfl⟩
  go_wp2_with (at_make; refine wpList_make_own _ rfl _ _ 23 rfl w.heap.size 27 i0 (.slice none 0 0) 1 Try.underlying23 hi hz0 hz1 .i64 .i64 _ (cut m l).length rfl rfl rfl (by rw [hz2]; omega) (by unfold maxLen; omega) (Nat.le_refl _) ?_)
  intro w1 hown hg
  have hb1 : Below w.heap.size w w1 := (Below.refl _ _).grown hg (Nat.le_refl _) (fun k hk => by cases hk)
  clear hg
  go_wp2_with fail
  go_loopw [8, 9] (fun v i wr => CutRel m l w v i wr) (fun _ i _ => l.length - (intOf i).toNat)
  case atStart => exact ⟨0, [], [], Nat.zero_le _, rfl, hown, OwnBs.nil _ _, hb1, by simp⟩
  case round =>
    clear hown hb1
    obtain ⟨f, ts, vs, hf, rfl, hown, hbs, hbr, he⟩ := hrel
    have HE := Lib.hid he
    clear he
    by_cases hlt : f < l.length
    · have h1 := tlen_pos (m := m) (drop_ne hlt)
      have h2 : f + tlen m (l.drop f) ≤ l.length := by have := tlen_le (m := m) (drop_ne hlt); rw [List.length_drop] at this; omega
      go_wp2_with fail
      refine (tokenEnd_any m A _ c f l _ rfl (by unfold maxLen; omega) (by omega) (hr.below hbr) (fun _ => hlt)).mono ?_
      rintro e w' ⟨rfl, rfl⟩
      go_wp2_with fail
      refine (copied_any _ _ _ ((l.drop f).take (tlen m (l.drop f))) _ (by rw [List.length_take, List.length_drop]; omega) (by omega) ((hr.below hbr).piece f _ h2)).mono ?_
      rintro e w2 ⟨u, rfl, hu, hb2⟩
      obtain ⟨A', n', c', hue⟩ := hu.isSlice
      subst hue
      have hts : ts.length ≤ l.length := by have := congrArg List.length HE.out; simp at this; omega
      have hb3 := hbr.size
      have hb4 := hb2.size
      go_wp2_with (at_builtin; refine wpList_append_own _ rfl (.tmp 30) (.tmp 36) 23 rfl w.heap.size 27 i0 (.slice none 0 0) 1 24 Try.underlying23 hi hz0 hz1 hz2 rfl (by decide) _ _ _ rfl ((own_below hown hb2 (Nat.le_refl _)).alloc _) ⟨w2.heap.size, 0, none⟩ 1 1 [_] rfl rfl (cell_one_new _ _ _) (one_slice _ _ _) (by unfold maxLen; omega) (by omega) (by simp; omega) ?_)
      intro v' w3 hown' hg' _
      have R := cut_round hlt hown hbs hbr HE.out hu hb2 hown' hg'
      clear hown' hg' hown hbs hu hb2 hb3 hb4 hts
      go_wp2_with fail
      go_roundw
      case rel => exact R
      case measure => simp [intOf]; omega
    · have hd : l.drop f = [] := List.drop_eq_nil_of_le (by omega)
      have he : ts = cut m l := by have := HE.out; rw [hd, cut_nil] at this; simpa using this
      clear HE hd
      have HE := Lib.hid he
      clear he
      go_wp2_with fail
      go_ret2
      exact ⟨_, vs, rfl, by rw [← HE.out]; exact hown, by rw [← HE.out]; exact hbs, hbr⟩

end Go.Proofs.Ytjhadoglcmhloaa
