/-
  Contract of package grid's Behind.
-/
import Derived.Test.YtdgijpbgbhpffaaAh1
import Derived.Test.YtdgijpbgbhpffaaRnd
namespace Go.Proofs.Ytdgijpbgbhpffaa
open Go.RowKit Go.Shelf
attribute [local go_sem] Oper.semAt_some

/-- A row more. -/
def stepT (b : List Int) (f : Nat → Nat → Int) (p : Nat × Int) : Nat → Nat → Int := fun r c => if r = p.1 then fillB p.2 b (f (p.1 + 1)) (f p.1) c else f r c
theorem tabB_upto {a b : List Int} (hn : a.length ≤ 1048576) : ∀ k, k ≤ a.length → (∀ r, a.length - k ≤ r → ∀ c, c ≤ b.length → (backs a k).foldl (stepT b) (fun _ _ => 0) r c = (lx a b r c : Nat)) ∧ (∀ r, r < a.length - k → ∀ c, (backs a k).foldl (stepT b) (fun _ _ => 0) r c = 0) := by
  intro k
  induction k with
  | zero =>
    intro _
    refine ⟨fun r hr c _ => ?_, fun r _ c => rfl⟩
    rw [lx_end_left a b r c (by omega)]
    rfl
  | succ k ih =>
    intro hk
    obtain ⟨ih1, ih2⟩ := ih (by omega)
    obtain ⟨j, hj⟩ : ∃ j, j + k + 1 = a.length := ⟨a.length - k - 1, by omega⟩
    have hjl : j < a.length := by omega
    have hx : a[j]? = some a[j] := List.getElem?_eq_getElem hjl
    generalize a[j] = x at *
    rw [backs_succ a hj hx, List.foldl_append, List.foldl_cons, List.foldl_nil]
    generalize (backs a k).foldl (stepT b) (fun _ _ => 0) = f at *
    refine ⟨fun r hr c hc => ?_, fun r hr c => ?_⟩
    · show (if r = j then fillB x b (f (j + 1)) (f j) c else f r c) = _
      by_cases e : r = j
      · subst e
        rw [if_pos rfl]
        exact fillB_row hx hn (fun c hc => ih1 (r + 1) (by omega) c hc) (ih2 r (by omega) _) c hc
      · rw [if_neg e]
        exact ih1 r (by omega) c hc
    · show (if r = j then fillB x b (f (j + 1)) (f j) c else f r c) = _
      rw [if_neg (by omega)]
      exact ih2 r (by omega) c
theorem tabB_all {a b : List Int} (hn : a.length ≤ 1048576) (r c : Nat) (hc : c ≤ b.length) : (backs a a.length).foldl (stepT b) (fun _ _ => 0) r c = (lx a b r c : Nat) :=
  (tabB_upto hn a.length (Nat.le_refl _)).1 r (by omega) c hc

/-- What holds between two rounds: T: the table; z: the variable's block; zb: that of b. -/
def PbI (a b : List Int) (B : Option Addr) (n m d T z zb : Nat) (w : World) (pre : List (AtI a)) (W : World) : Prop :=
  Tab ((pre.map Subtype.val).foldl (stepT b) (fun _ _ => 0)) n m T (fun r => T + 1 + r) W ∧ Boxed W zb 25 (.slice B m d) ∧ Boxed W z 23 (.slice (some ⟨T, 0, none⟩) (n + 1) (n + 1)) ∧ Below w.heap.size w W ∧ z + 1 < W.heap.size
theorem boxed_keptO {W W' : World} {b : Nat} {t : TypeId} {v : Value} {row : Option Nat} (h : Boxed W b t v) (hg : W.grownBy W' row) (hrow : ∀ r, row = some r → ∃ o : Obj, W.heap[r]? = some o ∧ o.isCells = false) : Boxed W' b t v := h.kept hg (fun e => by
  obtain ⟨o, ho, hc⟩ := hrow _ e.symm
  rw [show W.heap[_]? = _ from h] at ho
  cases ho
  cases hc)
theorem pbI_own {a b : List Int} {B : Option Addr} {n m d T z zb : Nat} {w : World} {B0 : Nat} (hB : w.heap.size ≤ B0) : OwnFrom B0 (PbI a b B n m d T z zb w) := by
  rintro pre W W' row ⟨h1, h2, h3, h4, h5⟩ hg hr
  have hr' : ∀ r, row = some r → ∃ o : Obj, W.heap[r]? = some o ∧ o.isCells = false := fun r e => (hr r e).2
  exact ⟨⟨rowIs_kept h1.1 hg hr', fun r hrn => rowIs_kept (h1.2 r hrn) hg hr'⟩, boxed_keptO h2 hg hr', boxed_keptO h3 hg hr', h4.grown hg h4.size (fun r e => Nat.le_trans hB (hr r e).1), Nat.lt_of_lt_of_le h5 hg.size⟩
/-- What a round reads. -/
def PbS (B : Option Addr) (n m d T z zb i : Nat) (W : World) : Prop :=
  W.cell? ⟨zb, 0, none⟩ = some (.slice B m d) ∧ W.cell? ⟨z, 0, none⟩ = some (.slice (some ⟨T, 0, none⟩) (n + 1) (n + 1)) ∧ W.cell? ⟨T, i, none⟩ = some (.slice (some ⟨T + 1 + i, 0, none⟩) (m + 1) (m + 1)) ∧ W.cell? ⟨T, i + 1, none⟩ = some (.slice (some ⟨T + 1 + (i + 1), 0, none⟩) (m + 1) (m + 1))
theorem pbI_reads {a b : List Int} {B : Option Addr} {n m d T z zb i : Nat} {w W : World} {pre : List (AtI a)} (h : PbI a b B n m d T z zb w pre W) (hi : i < n) : PbS B n m d T z zb i W :=
  ⟨h.2.1.cell, h.2.2.1.cell, h.1.1.cell (by omega), h.1.1.cell (by omega)⟩
def PbP (a b : List Int) (B : Option Addr) (n m d T z zb B0 Bs : Nat) (w : World) (pre : List (AtI a)) (W W' : World) : Prop :=
  KeepsFrom B0 W W' ∧ KpB w.heap.size Bs W W' ∧ PbI a b B n m d T z zb w pre W'
theorem pb_step {a b : List Int} {B : Option Addr} {n m d T z zb i B0 : Nat} {x : Int} {w W w' : World} {pre : List (AtI a)} (h : PbI a b B n m d T z zb w pre W) (hx : a[i]? = some x) (hi : i < n) (hT : w.heap.size ≤ T) (hzb : zb < T) (hz : T + 1 + n < z)
    (t1 : IsRow w' (T + 1 + i) (m + 1) (fillB x b ((pre.map Subtype.val).foldl (stepT b) (fun _ _ => 0) (i + 1)) ((pre.map Subtype.val).foldl (stepT b) (fun _ _ => 0) i))) (t2 : W.drew.grownBy w' (some (T + 1 + i))) :
    PbP a b B n m d T z zb B0 (z + 1) w (pre ++ [⟨(i, x), hx⟩]) W w' := by
  obtain ⟨h1, h2, h3, h4, h5⟩ := h
  have t3 : W.grownBy w' (some (T + 1 + i)) := ⟨t2.os, t2.tape, t2.output, t2.size, t2.block⟩
  have hlt := World.rowIs.lt (h1.2 i (by omega))
  refine ⟨(KeepsOthers.of_grownBy t3 (fun j o e ho => ?_)).from _, ⟨(Below.refl _ _).grown t3 h4.size (fun r e => by cases e; omega), ?_⟩, ?_, h2.kept t3 (fun e => by injection e; omega), h3.kept t3 (fun e => by injection e; omega), h4.grown t3 h4.size (fun r e => by cases e; omega), Nat.lt_of_lt_of_le h5 t3.size⟩
  · cases e
    obtain ⟨c, hc, _⟩ := h1.2 i (by omega)
    rw [hc] at ho
    cases ho
    rfl
  · exact t3.block (z + 1) h5 (fun e => by injection e; omega)
  · refine (h1.grown (r0 := i) t3 (by omega) (fun r _ hr => by omega) t1).congr fun r _ c _ => ?_
    simp only [List.map_append, List.map_cons, List.map_nil, List.foldl_append, List.foldl_cons, List.foldl_nil]
    rfl

set_option maxRecDepth 100000 in
set_option maxHeartbeats 3200000 in
theorem pbehind_any (A B : Option Addr) (n m c d : Nat) (a b : List Int) (w : World) (hn : a.length = n) (hm : b.length = m) (hb : n ≤ 1048576) (hb' : m ≤ 1048576) (h1 : Row w A (iv a)) (h2 : Row w B (iv b)) :
    Calls Try.prog 12 #[.slice A n c, .slice B m d] w (TabMade (fun r c => (lx a b r c : Nat)) n m w) := by
  have HN := Lib.hid hn
  have HM := Lib.hid hm
  clear hn hm
  have TA := Lib.hid (table_any A B n m c d (w.alloc (.cells #[.slice B m d] 25)) hb hb')
  refine (callsIn_wide (n := 3)).1 ?_
  refine callsIn_of_wp_marks Try.func12 rfl trivial ?_ rfl
  simp only [Try.ntmps12, List.size_toArray, List.length_cons, List.length_nil, Nat.reduceAdd, Nat.reduceSub, Array.replicate_succ, Array.replicate_zero, List.push_toArray, List.append_toArray, List.nil_append, List.cons_append]
  gi_wp2_with (refine ⟨trivial, ?_⟩; gi_at_call 28; refine (callsIn_wide.2 TA.out).mono ?_; rintro e w1 ⟨rfl, hT, hB, hsz⟩)
  simp only [World.size_alloc] at hT hB hsz ⊢
  gi_wp2_with (refine ⟨trivial, ?_⟩; gi_at_call 29; refine (back_in _ _ _ _ _).mono ?_; rintro e w' ⟨rfl, rfl⟩)
  obtain ⟨z, hz⟩ : ∃ z, w.heap.size + 1 + 1 + (n + 1) = z := ⟨_, rfl⟩
  rw [hz] at hsz ⊢
  have hw1 : Below w.heap.size w w1 := ((Below.refl _ _).alloc (Nat.le_refl _) _).trans (hB.mono (by omega))
  have bB : Boxed w1 w.heap.size 25 (.slice B m d) := (hB.block w.heap.size (by omega)).trans (Boxed.new w _ _)
  have bT : Boxed (w1.alloc (.cells #[.slice (some ⟨w.heap.size + 1, 0, none⟩) (n + 1) (n + 1)] 23)) z 23 (.slice (some ⟨w.heap.size + 1, 0, none⟩) (n + 1) (n + 1)) := by
    have := Boxed.new w1 23 (.slice (some ⟨w.heap.size + 1, 0, none⟩) (n + 1) (n + 1))
    rw [hsz] at this
    exact this
  have bN : Boxed ((w1.alloc (.cells #[.slice (some ⟨w.heap.size + 1, 0, none⟩) (n + 1) (n + 1)] 23)).alloc (.cells #[.slice A n c] 25)) (z + 1) 25 (.slice A n c) := by
    have := Boxed.new (w1.alloc (.cells #[.slice (some ⟨w.heap.size + 1, 0, none⟩) (n + 1) (n + 1)] 23)) 25 (.slice A n c)
    simp only [World.size_alloc, hsz] at this
    exact this
  have hBl : Below w.heap.size w ((w1.alloc (.cells #[.slice (some ⟨w.heap.size + 1, 0, none⟩) (n + 1) (n + 1)] 23)).alloc (.cells #[.slice A n c] 25)) := (hw1.alloc (by omega) _).alloc (by simp; omega) _
  have HI : PbI a b B n m d (w.heap.size + 1) z w.heap.size w [] ((w1.alloc (.cells #[.slice (some ⟨w.heap.size + 1, 0, none⟩) (n + 1) (n + 1)] 23)).alloc (.cells #[.slice A n c] 25)) :=
    ⟨(hT.below (((Below.refl _ _).alloc (Nat.le_refl _) _).alloc (by simp) _)).congr fun _ _ _ _ => rfl, (bB.alloc _).alloc _, bT.alloc _, hBl, by simp [hsz]⟩
  have hlz : ((w1.alloc (.cells #[.slice (some ⟨w.heap.size + 1, 0, none⟩) (n + 1) (n + 1)] 23)).alloc (.cells #[.slice A n c] 25)).heap.size = z + 1 + 1 := by simp [hsz]
  generalize ((w1.alloc (.cells #[.slice (some ⟨w.heap.size + 1, 0, none⟩) (n + 1) (n + 1)] 23)).alloc (.cells #[.slice A n c] 25)) = wl at *
  clear hT hB hw1 bB bT TA
  refine wpIn_rangeFunc_ownG rfl (by omega) (gf := 34) (lb := #[.pointer (some ⟨z + 1, 0, none⟩)]) rfl trivial (enters_of Try.func34 (by kernel_rfl) rfl)
    (back_stops _ (by omega) (z + 1) A n c a w wl HN.out hb h1 hBl bN) kpB_t (kpB_b (by omega) (by omega)) (Below.refl _ _) (fun _ => rfl)
    (PbI a b B n m d (w.heap.size + 1) z w.heap.size w) (fun _ _ _ => False) (pbI_own (by omega)) (fun _ _ _ _ _ hs _ _ => hs) HI
    (fun p => { tmps := #[.slice A n c, .slice B m d, undef, .pointer (some ⟨w.heap.size, 0, none⟩), .slice none 0 0, .pointer (some ⟨z, 0, none⟩), .int .i64 (p.1.1 : Int), .int .i64 p.1.2, .slice A n c, .slice B m d, .slice (some ⟨w.heap.size + 1, 0, none⟩) (n + 1) (n + 1), .slice A n c, .func (.func 34) #[] #[.pointer (some ⟨z + 1, 0, none⟩)], .int .i64 (p.1.1 : Int), .int .i64 p.1.2, undef, undef, undef, undef, undef, undef, undef, undef, undef, undef, undef, undef, undef], defers := [] }) ?assign ?body ?done ?stop
  case assign =>
    intro l p W K hK
    simp only [encI]
    gi_wp2
    exact hK
  case body =>
    rintro l pre ⟨⟨i, x⟩, hx⟩ W hI _
    have hi : i < n := by rw [← HN.out]; exact (List.getElem?_eq_some_iff.1 hx).1
    have HS := Lib.hid (pbI_reads hI hi)
    have C := Lib.hid (fillBehind_any x B m d (w.heap.size + 1 + 1 + i) (w.heap.size + 1 + 1 + (i + 1)) (m + 1) (m + 1) b _ _ w W.drew HM.out hb' h2 hI.2.2.2.1.drew (by omega) (by omega) (hI.1.2 (i + 1) (by omega)) (hI.1.2 i (by omega)))
    have R := Lib.hid (fun w' => pb_step (w' := w') (B0 := wl.heap.size) hI hx hi (by omega) (by omega) (by omega))
    have hmx : Try.prog.follows .mixedOrders = true := by kernel_rfl
    have ew : IntKind.i64.wrap ((i : Int) + 1) = ((i + 1 : Nat) : Int) := by rw [IntWalk.i64_in _ (by omega)]; rfl
    clear hI HI h1 h2 bN hBl
    dsimp only
    gi_wp2
    refine region_held (PbS B n m d (w.heap.size + 1) z w.heap.size i) (by kernel_rfl) (fun ⟨_, _, h⟩ => h) hmx ?_
    refine wpAnyH_take (i := 0) (v := ?v1) rfl (by kernel_rfl) (by kernel_rfl) (by kernel_rfl) (fun _ _ _ h => h) (.inl ⟨by rfl, ?y1⟩) HS.out ?_
    case y1 =>
      rintro w' ⟨s1, s2, s3, s4⟩
      go_simp
      try simp only [ew]
      try rw [if_pos (by omega)]
      try simp only [Int.toNat_natCast]
      first | done | with_reducible rfl
    refine wpAnyH_take (i := 1) (v := ?v2) rfl (by kernel_rfl) (by kernel_rfl) (by kernel_rfl) (fun _ _ _ h => h) (.inl ⟨by rfl, ?y2⟩) HS.out ?_
    case y2 =>
      rintro w' ⟨s1, s2, s3, s4⟩
      go_simp
      try simp only [ew]
      try rw [if_pos (by omega)]
      try simp only [Int.toNat_natCast]
      first | done | with_reducible rfl
    refine wpAnyH_take (i := 2) (v := ?v3) rfl (by kernel_rfl) (by kernel_rfl) (by kernel_rfl) (fun _ _ _ h => h) (.inl ⟨by rfl, ?y3⟩) HS.out ?_
    case y3 =>
      rintro w' ⟨s1, s2, s3, s4⟩
      go_simp
      try simp only [ew]
      try rw [if_pos (by omega)]
      try simp only [Int.toNat_natCast]
      first | done | with_reducible rfl
    refine wpAnyH_take (i := 3) (v := ?v4) rfl (by kernel_rfl) (by kernel_rfl) (by kernel_rfl) (fun _ _ _ h => h) (.inl ⟨by rfl, ?y4⟩) HS.out ?_
    case y4 =>
      rintro w' ⟨s1, s2, s3, s4⟩
      go_simp
      try simp only [ew]
      try rw [if_pos (by omega)]
      try simp only [Int.toNat_natCast]
      first | done | with_reducible rfl
    refine wpAnyH_take (i := 4) (v := ?v5) rfl (by kernel_rfl) (by kernel_rfl) (by kernel_rfl) (fun _ _ _ h => h) (.inl ⟨by rfl, ?y5⟩) HS.out ?_
    case y5 =>
      rintro w' ⟨s1, s2, s3, s4⟩
      go_simp
      try simp only [ew]
      try rw [if_pos (by omega)]
      try simp only [Int.toNat_natCast]
      first | done | with_reducible rfl
    refine wpAnyH_take (i := 5) (v := ?v6) rfl (by kernel_rfl) (by kernel_rfl) (by kernel_rfl) (fun _ _ _ h => h) (.inl ⟨by rfl, ?y6⟩) HS.out ?_
    case y6 =>
      rintro w' ⟨s1, s2, s3, s4⟩
      go_simp
      try simp only [ew]
      try rw [if_pos (by omega)]
      try simp only [Int.toNat_natCast]
      first | done | with_reducible rfl
    refine wpAnyH_take (i := 6) (v := ?v7) rfl (by kernel_rfl) (by kernel_rfl) (by kernel_rfl) (fun _ _ _ h => h) (.inl ⟨by rfl, ?y7⟩) HS.out ?_
    case y7 =>
      rintro w' ⟨s1, s2, s3, s4⟩
      go_simp
      try simp only [ew]
      try rw [if_pos (by omega)]
      try simp only [Int.toNat_natCast]
      first | done | with_reducible rfl
    refine wpAnyH_take (i := 7) (v := ?v8) rfl (by kernel_rfl) (by kernel_rfl) (by kernel_rfl) (fun _ _ _ h => h) (.inl ⟨by rfl, ?y8⟩) HS.out ?_
    case y8 =>
      rintro w' ⟨s1, s2, s3, s4⟩
      go_simp
      try simp only [ew]
      try rw [if_pos (by omega)]
      try simp only [Int.toNat_natCast]
      first | done | with_reducible rfl
    refine wpAnyH_take (i := 8) (v := ?v9) rfl (by kernel_rfl) (by kernel_rfl) (by kernel_rfl) (fun _ _ _ h => h) (.inl ⟨by rfl, ?y9⟩) HS.out ?_
    case y9 =>
      rintro w' ⟨s1, s2, s3, s4⟩
      go_simp
      try simp only [ew]
      try rw [if_pos (by omega)]
      try simp only [Int.toNat_natCast]
      first | done | with_reducible rfl
    refine wpAnyH_take (i := 9) (v := ?v10) rfl (by kernel_rfl) (by kernel_rfl) (by kernel_rfl) (fun _ _ _ h => h) (.inl ⟨by rfl, ?y10⟩) HS.out ?_
    case y10 =>
      rintro w' ⟨s1, s2, s3, s4⟩
      go_simp
      try simp only [ew]
      try rw [if_pos (by omega)]
      try simp only [Int.toNat_natCast]
      first | done | with_reducible rfl
    refine wpAnyH_take (i := 10) (v := ?v11) rfl (by kernel_rfl) (by kernel_rfl) (by kernel_rfl) (fun _ _ _ h => h) (.inl ⟨by rfl, ?y11⟩) HS.out ?_
    case y11 =>
      rintro w' ⟨s1, s2, s3, s4⟩
      go_simp
      try simp only [ew]
      try rw [if_pos (by omega)]
      try simp only [Int.toNat_natCast]
      first | done | with_reducible rfl
    refine held_last (i := 11) (by kernel_rfl) (by kernel_rfl) rfl (by rfl) ?_
    unfold Oper.wp
    go_simp
    refine C.out.mono ?_
    rintro e w2 ⟨⟨v, rfl⟩, s1, s2⟩
    have P2 := R.out w2 s1 s2
    exact ⟨pbI_reads P2.2.2 hi, P2⟩
  case done =>
    rintro D ys W hD hS ⟨h3, h4, h5, h6, h7⟩ hK
    have t0 := h5.cell
    have hk : ∀ r, some D = some r → ∃ o : Obj, W.heap[r]? = some o ∧ o.isCells = false := fun r e => by cases e; exact ⟨_, hK, rfl⟩
    have HF : Hid (TabMade (fun r c => (lx a b r c : Nat)) n m w (.returned (.slice (some ⟨w.heap.size + 1, 0, none⟩) (n + 1) (n + 1))) (W.putObj D (.deferred none))) := by
      refine ⟨_, _, rfl, by omega, Tab.congr ⟨rowIs_kept h3.1 (grownBy_putObj' W D _) hk, fun r hr => rowIs_kept (h3.2 r hr) (grownBy_putObj' W D _) hk⟩ fun r _ c hc => ?_, h6.grown (grownBy_putObj' W D _) h6.size (fun r e => by cases e; omega)⟩
      rw [hS]
      exact tabB_all (by rw [HN.out]; exact hb) r c (by rw [HM.out]; exact hc)
    clear h3 h4 h5 h6
    gi_wp2
    refine ⟨by simp, .inl ⟨_, _, rfl, run_takeDeferred hK, ?_⟩⟩
    refine ⟨_, results_tmp rfl _ _ _, ?_⟩
    exact HF.out
  case stop =>
    rintro D c pre W _ _ h _
    exact h.elim

end Go.Proofs.Ytdgijpbgbhpffaa
