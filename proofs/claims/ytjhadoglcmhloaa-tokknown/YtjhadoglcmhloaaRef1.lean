/-
  Contracts of the document's own answers for chapter 1 (tattingref1): Cut, SameTokens.
-/
import Derived.Test.YtjhadoglcmhloaaTok3
import Derived.Deep.QuietTactic
import Derived.BigQuiet
namespace Go.Proofs.Ytjhadoglcmhloaa
open Go.RowKit

theorem refCut_no (m : Int) (v : Value) (w : World) (hv : (m == 0 || m == 1) = false) :
    Calls Try.prog 16 #[.int .i64 m, v] w fun e w' => e = .returned (.tuple #[.slice none 0 0, .int .i64 1]) ∧ w = w' := by
  have h0 : (m != 0) = true := by simp at hv ⊢; exact hv.1
  have h1 : (m != 1) = true := by simp at hv ⊢; exact hv.2
  clear hv
  go_enter Try.func16, Try.ntmps16
  go_wp2_with fail
  go_ret2
  exact ⟨rfl, rfl⟩

/-- What the reference leaves: a new list of pieces of what came in. -/
def RefToks (ls : List (List UInt8)) (w : World) (e : Ending) (w' : World) : Prop :=
  ∃ v vs, e = .returned (.tuple #[v, .int .i64 0]) ∧ w'.ownsRow w.heap.size 27 1 v ls.length vs ∧ BSs w vs ls ∧ Below w.heap.size w w'

def RefRel (m : Int) (l : List UInt8) (w : World) (v p i : Value) (wr : World) : Prop :=
  ∃ (f k : Nat) (ts : List (List UInt8)) (vs : List Value), f ≤ k ∧ k ≤ l.length ∧ p = .int .i64 f ∧ i = .int .i64 k ∧ wr.ownsRow w.heap.size 27 1 v ts.length vs ∧ BSs w vs ts ∧ Below w.heap.size w wr ∧
    ts ++ cut m (l.drop f) = cut m l ∧ k + tlen m (l.drop k) = f + tlen m (l.drop f)

theorem tlen_at (m : Int) (l : List UInt8) (k : Nat) (h : k < l.length) (hne : m ≠ 0) : tlen m (l.drop k) = if l[k] = 10 then 1 else tlen m (l.drop (k + 1)) + 1 := by
  unfold tlen
  rw [if_neg hne, if_neg hne]
  exact nl_at l k h

/-- A token more: the relation behind the append. -/
theorem ref_hit {m : Int} {l : List UInt8} {w wr w2 : World} {f k c q : Nat} {ts : List (List UInt8)} {vs : List Value} {v v' : Value} {A A' : Option Addr} (hA' : Option.map (fun x => x.add f) A = A') (hfk : f ≤ k) (hk : k < l.length) (hlc : l.length ≤ c) (hcm : c ≤ maxLen) (hr : Row w A (bv l))
    (hown : wr.ownsRow w.heap.size 27 1 v ts.length vs) (hbs : BSs w vs ts) (hb : Below w.heap.size w wr) (he : ts ++ cut m (l.drop f) = cut m l) (ht : k + tlen m (l.drop k) = f + tlen m (l.drop f)) (h1 : tlen m (l.drop k) = 1) (hq : f + q = k + 1)
    (hown' : w2.ownsRow w.heap.size 27 1 v' (ts.length + 1) (vs ++ [.slice A' q (c - f)])) (hg : (wr.alloc (.cells #[.slice A' q (c - f)] 27)).grownBy w2 v.ownBlock) :
    RefRel m l w v' (.int .i64 (k + 1 : Nat)) (.int .i64 (k + 1 : Nat)) w2 := by
  subst hA'
  have hs := hb.size
  have hf : f < l.length := by omega
  obtain rfl : q = k + 1 - f := by omega
  have hd : tlen m (l.drop f) = k + 1 - f := by omega
  have hpl : ((l.drop f).take (k + 1 - f)).length = k + 1 - f := by rw [List.length_take, List.length_drop]; omega
  have hp := hr.piece f (k + 1 - f) (by omega)
  refine ⟨k + 1, k + 1, ts ++ [(l.drop f).take (k + 1 - f)], _, Nat.le_refl _, by omega, rfl, rfl, by simpa using hown', ?_, ?_, ?_, rfl⟩
  · refine hbs.snoc ⟨_, c - f, by rw [hpl], by omega, by omega, hp, fun e => ?_⟩
    obtain ⟨g, o, e', _⟩ := hp (by intro e; have := congrArg List.length e; rw [bv_length, hpl] at this; simp at this; omega)
    rw [e'] at e
    cases e
  · refine (hb.alloc (by omega) _).grown hg (by simp; omega) (fun x hx => ?_)
    exact (hown.lt x hx).1
  · rw [List.append_assoc, List.singleton_append, ← he, cut_at m l f hf, hd, show f + (k + 1 - f) = k + 1 by omega]

theorem ref_end {m : Int} {l : List UInt8} {w wr w2 : World} {f c : Nat} {ts : List (List UInt8)} {vs : List Value} {v v' : Value} {A A' : Option Addr} (hA' : Option.map (fun x => x.add f) A = A') (hf : f < l.length) (hlc : l.length ≤ c) (hcm : c ≤ maxLen) (hr : Row w A (bv l)) (hm : m ≠ 0)
    (hown : wr.ownsRow w.heap.size 27 1 v ts.length vs) (hbs : BSs w vs ts) (hb : Below w.heap.size w wr) (he : ts ++ cut m (l.drop f) = cut m l) (ht : l.length + tlen m (l.drop l.length) = f + tlen m (l.drop f))
    (hown' : w2.ownsRow w.heap.size 27 1 v' (ts.length + 1) (vs ++ [.slice A' (l.length - f) (c - f)])) (hg : (wr.alloc (.cells #[.slice A' (l.length - f) (c - f)] 27)).grownBy w2 v.ownBlock) :
    RefToks (cut m l) w (.returned (.tuple #[v', .int .i64 0])) w2 := by
  subst hA'
  have hs := hb.size
  have ht' : tlen m (l.drop f) = l.length - f := by
    rw [List.drop_length] at ht
    have : tlen m [] = 0 := by unfold tlen; rw [if_neg hm]; rfl
    omega
  have hpl : ((l.drop f).take (l.length - f)).length = l.length - f := by rw [List.length_take, List.length_drop]; omega
  have hp := hr.piece f (l.length - f) (by omega)
  have hcut : cut m l = ts ++ [(l.drop f).take (l.length - f)] := by
    rw [← he, cut_at m l f hf, ht', show f + (l.length - f) = l.length by omega, List.drop_length, cut_nil]
  refine ⟨v', _, rfl, by rw [hcut]; simpa using hown', ?_, ?_⟩
  · rw [hcut]
    refine hbs.snoc ⟨_, c - f, by rw [hpl], by omega, by omega, hp, fun e => ?_⟩
    obtain ⟨g, o, e', _⟩ := hp (by intro e; have := congrArg List.length e; rw [bv_length, hpl] at this; simp at this; omega)
    rw [e'] at e
    cases e
  · refine (hb.alloc (by omega) _).grown hg (by simp; omega) (fun x hx => ?_)
    exact (hown.lt x hx).1

theorem ref_done {m : Int} {l : List UInt8} {w wr : World} {ts : List (List UInt8)} {vs : List Value} {v : Value}
    (hown : wr.ownsRow w.heap.size 27 1 v ts.length vs) (hbs : BSs w vs ts) (hb : Below w.heap.size w wr) (he : ts ++ cut m (l.drop l.length) = cut m l) :
    RefToks (cut m l) w (.returned (.tuple #[v, .int .i64 0])) wr := by
  rw [List.drop_length, cut_nil, List.append_nil] at he
  rw [← he]
  exact ⟨v, vs, rfl, hown, hbs, hb⟩

set_option maxHeartbeats 1600000 in
theorem refCut_yes (m : Int) (A : Option Addr) (n c : Nat) (l : List UInt8) (w : World) (hn : l.length = n) (hc : n ≤ c) (hcm : c ≤ maxLen) (hb : n ≤ 2147483648) (hr : Row w A (bv l)) (hv : (m == 0 || m == 1) = true) :
    Calls Try.prog 16 #[.int .i64 m, .slice A n c] w (RefToks (cut m l) w) := by
  obtain ⟨i0, hi, hz0, hz1, hz2⟩ := info_parts Try.infoBs
  subst hn
  have hcl := cut_len m l
  by_cases hm0 : m = 0
  · subst hm0
    clear hv
    go_enter Try.func16, Try.ntmps16
    go_wp2_with fail
    go_loopw [6, 7, 8] (fun v p i wr => RefRel 0 l w v p i wr) (fun _ _ i _ => l.length - (intOf i).toNat)
    case atStart => exact ⟨0, 0, [], [], Nat.le_refl _, Nat.zero_le _, rfl, rfl, World.ownsRow_nil _ _ _ _, BSs.nil _, Below.refl _ _, by simp, rfl⟩
    case round =>
      obtain ⟨f, k, ts, vs, hfk, hk, rfl, rfl, hown, hbs, hbr, he, ht⟩ := hrel
      have hts : ts.length ≤ l.length := by have := congrArg List.length he; simp at this; omega
      have HE := Lib.hid he
      have HT := Lib.hid ht
      have hsz := hbr.size
      have hfe : f = k := by have := ht; simp [tlen] at this; omega
      clear he ht
      subst hfe
      by_cases hlt : f < l.length
      · have hcf : ¬ c = f := by omega
        go_wp2_with (at_builtin; refine wpList_append_own _ rfl (.tmp 30) (.tmp 36) 23 rfl w.heap.size 27 i0 (.slice none 0 0) 1 24 Try.underlying23 hi hz0 hz1 hz2 rfl (by decide) _ _ _ rfl (hown.alloc _) ⟨wr.heap.size, 0, none⟩ 1 1 [_] rfl rfl (cell_one_new _ _ _) (one_slice _ _ _) (by unfold maxLen; omega) (by omega) (by simp; omega) ?_)
        intro v' w3 hown' hg' _
        have R := ref_hit rfl hfk hlt hc hcm hr hown hbs hbr HE.out rfl rfl rfl hown' hg'
        clear hown' hg' hown hbs
        go_wp2_with fail
        go_roundw
        case rel => exact R
        case measure => simp [intOf]; omega
      · have he : f = l.length := by omega
        subst he
        go_wp2_with fail
        go_ret2
        exact ref_done hown hbs hbr HE.out
  · have h0 : (m != 0) = true := by simpa using hm0
    have h0' : (m == 0) = false := by simpa using hm0
    have h1 : (m != 1) = false := by simp [hm0] at hv; simp [hv]
    have HM := Lib.hid hm0
    clear hv hm0
    go_enter Try.func16, Try.ntmps16
    go_wp2_with fail
    go_loopw [6, 7, 8] (fun v p i wr => RefRel m l w v p i wr) (fun _ _ i _ => l.length - (intOf i).toNat)
    case atStart => exact ⟨0, 0, [], [], Nat.le_refl _, Nat.zero_le _, rfl, rfl, World.ownsRow_nil _ _ _ _, BSs.nil _, Below.refl _ _, by simp, rfl⟩
    case round =>
      obtain ⟨f, k, ts, vs, hfk, hk, rfl, rfl, hown, hbs, hbr, he, ht⟩ := hrel
      have hts : ts.length ≤ l.length := by have := congrArg List.length he; simp at this; omega
      have HE := Lib.hid he
      have HT := Lib.hid ht
      have hsz := hbr.size
      clear he ht
      by_cases hlt : k < l.length
      · obtain ⟨g, o, hA, hcell⟩ := (hr.below hbr).byte hlt
        have HA := Lib.hid hA
        clear hA
        have hcf : ¬ c = f := by omega
        by_cases h10 : l[k] = 10
        · have hz : (((l[k].toNat : Nat) : Int) == 10) = true := by rw [h10]; rfl
          have H10 := Lib.hid h10
          clear h10
          rw [HA.out]
          go_wp2_with (at_builtin; refine wpList_append_own _ rfl (.tmp 30) (.tmp 36) 23 rfl w.heap.size 27 i0 (.slice none 0 0) 1 24 Try.underlying23 hi hz0 hz1 hz2 rfl (by decide) _ _ _ rfl (hown.alloc _) ⟨wr.heap.size, 0, none⟩ 1 1 [_] rfl rfl (cell_one_new _ _ _) (one_slice _ _ _) (by unfold maxLen; omega) (by omega) (by simp; omega) ?_)
          intro v' w3 hown' hg' _
          have R := ref_hit (by rw [HA.out]; simp [Addr.add_lit]) hfk hlt hc hcm hr hown hbs hbr HE.out HT.out (by rw [tlen_at m l k hlt HM.out, if_pos H10.out]) (by omega) hown' hg'
          clear hown' hg' hown hbs
          go_wp2_with fail
          go_roundw
          case rel => exact R
          case measure => simp [intOf]; omega
        · have hz : (((l[k].toNat : Nat) : Int) == 10) = false := by
            rw [beq_eq_false_iff_ne]
            intro e
            apply h10
            apply UInt8.toNat.inj
            have e2 : l[k].toNat = 10 := by omega
            rw [e2]; rfl
          have H10 := Lib.hid h10
          clear h10
          have R : RefRel m l w u6 (.int .i64 f) (.int .i64 (k + 1 : Nat)) wr :=
            ⟨f, k + 1, ts, vs, by omega, by omega, rfl, rfl, hown, hbs, hbr, HE.out, by have := HT.out; rw [tlen_at m l k hlt HM.out, if_neg H10.out] at this; omega⟩
          clear hown hbs
          rw [HA.out]
          go_wp2_with fail
          go_roundw
          case rel => exact R
          case measure => simp [intOf]; omega
      · have he : k = l.length := by omega
        subst he
        by_cases hfl : f < l.length
        · have hcf : ¬ c = f := by omega
          go_wp2_with (at_builtin; refine wpList_append_own _ rfl (.tmp 44) (.tmp 48) 23 rfl w.heap.size 27 i0 (.slice none 0 0) 1 24 Try.underlying23 hi hz0 hz1 hz2 rfl (by decide) _ _ _ rfl (hown.alloc _) ⟨wr.heap.size, 0, none⟩ 1 1 [_] rfl rfl (cell_one_new _ _ _) (one_slice _ _ _) (by unfold maxLen; omega) (by omega) (by simp; omega) ?_)
          intro v' w3 hown' hg' _
          have R := ref_end rfl hfl hc hcm hr HM.out hown hbs hbr HE.out HT.out hown' hg'
          clear hown' hg' hown hbs
          go_wp2_with fail
          go_ret2
          exact R
        · have he : f = l.length := by omega
          subst he
          go_wp2_with fail
          go_ret2
          exact ref_done hown hbs hbr HE.out

set_option maxHeartbeats 800000 in
theorem same_len (A A' : Option Addr) (n n' c c' : Nat) (vs us : List Value) (ls ms : List (List UInt8)) (w : World) (hn : ls.length = n) (hn' : ms.length = n') (hb : n ≤ 2147483648) (hr : Row w A vs) (hbs : BSs w vs ls) (hr' : Row w A' us) (hbs' : BSs w us ms) (he : ls.length = ms.length) :
    Calls Try.prog 17 #[.slice A n c, .slice A' n' c'] w fun e w' => e = .returned (.bool (decide (ls = ms))) ∧ ∃ q, w' = w.drewN q := by
  subst hn
  subst hn'
  have HE := Lib.hid he
  rw [← he]
  clear he
  go_enter Try.func17, Try.ntmps17
  go_wp2_with fail
  go_loopw [5] (fun i wr => ∃ k q : Nat, k ≤ ls.length ∧ i = .int .i64 k ∧ wr = w.drewN q ∧ Hid (ls.take k = ms.take k)) (fun i _ => ls.length - (intOf i).toNat)
  case atStart => exact ⟨0, 0, Nat.zero_le _, rfl, rfl, by show _ = _; simp⟩
  case round =>
    obtain ⟨k, q, hk, rfl, rfl, hkk⟩ := hrel
    by_cases hlt : k < ls.length
    · have hlt' : k < ms.length := by rw [← HE.out]; exact hlt
      obtain ⟨g, o, B, d, rfl, hc, h1, h2, h3, h4⟩ := hbs.cell hr hlt
      obtain ⟨g', o', B', d', rfl, hc', h1', h2', h3', h4'⟩ := hbs'.cell hr' hlt'
      have cv := fun q => conv_any (P := Try.prog) rfl (h3.drewN q) 27 9 5 d Try.underlying27 Try.underlying5 Try.underlying9
      have cv' := fun q => conv_any (P := Try.prog) rfl (h3'.drewN q) 27 9 5 d' Try.underlying27 Try.underlying5 Try.underlying9
      have HS := Lib.hid (List.take_succ_eq_append_getElem hlt)
      have HS' := Lib.hid (List.take_succ_eq_append_getElem hlt')
      have HX : Hid (ls[k]? = some ls[k]) := List.getElem?_eq_getElem hlt
      have HX' : Hid (ms[k]? = some ms[k]) := List.getElem?_eq_getElem hlt'
      generalize ls[k] = x at *
      generalize ms[k] = y at *
      clear hlt' h1 h2 h3 h4 h1' h2' h3' h4' hbs hbs' hr hr'
      by_cases heq : x = y
      · have hz : (x == y) = true := by simpa using heq
        have HQ := Lib.hid heq
        clear heq
        go_wp2_with fail
        go_quiet (fail)
        go_wp2_with fail
        go_roundw
        case rel => exact ⟨k + 1, _, by omega, by go_num, rfl, by show _ = _; rw [HS.out, HS'.out, hkk.out, HQ.out]⟩
        case measure => simp [intOf]; omega
      · have hz : (x == y) = false := by simpa using heq
        have HQ := Lib.hid heq
        clear heq
        have hfin : decide (ls = ms) = false := by
          rw [decide_eq_false_iff_not]
          intro e
          apply HQ.out
          have e1 := HX.out
          rw [e, HX'.out] at e1
          exact (Option.some.inj e1).symm
        have HF := Lib.hid hfin
        clear hfin
        go_wp2_with fail
        go_quiet (fail)
        go_wp2_with fail
        go_ret
        exact ⟨by rw [HF.out]; rfl, q + nq, by rw [World.drewN_drewN]⟩
    · have hfin : decide (ls = ms) = true := by
        have e := hkk.out
        rw [List.take_of_length_le (by omega), List.take_of_length_le (by rw [← HE.out]; omega)] at e
        simpa using e
      have HF := Lib.hid hfin
      clear hfin
      go_wp2_with fail
      go_ret
      exact ⟨by rw [HF.out]; rfl, _, rfl⟩

theorem same_any (A A' : Option Addr) (n n' c c' : Nat) (vs us : List Value) (ls ms : List (List UInt8)) (w : World) (hn : ls.length = n) (hn' : ms.length = n') (hb : n ≤ 2147483648) (hr : Row w A vs) (hbs : BSs w vs ls) (hr' : Row w A' us) (hbs' : BSs w us ms) :
    Calls Try.prog 17 #[.slice A n c, .slice A' n' c'] w fun e w' => e = .returned (.bool (decide (ls = ms))) ∧ ∃ q, w' = w.drewN q := by
  by_cases he : ls.length = ms.length
  · exact same_len A A' n n' c c' vs us ls ms w hn hn' hb hr hbs hr' hbs' he
  · subst hn
    subst hn'
    have hfin : decide (ls = ms) = false := by
      rw [decide_eq_false_iff_not]
      intro e
      exact he (congrArg List.length e)
    rw [hfin]
    have hz : ((ls.length : Int) != (ms.length : Int)) = true := by simp; omega
    clear hfin he
    go_enter Try.func17, Try.ntmps17
    go_wp2_with fail
    go_ret
    exact ⟨rfl, 0, rfl⟩

end Go.Proofs.Ytjhadoglcmhloaa
