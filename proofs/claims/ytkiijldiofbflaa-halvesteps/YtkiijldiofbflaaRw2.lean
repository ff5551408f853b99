/-
  Contract of package rows' fillBack: a row of the table from the row below it.
-/
import Derived.Test.YtkiijldiofbflaaFb1
namespace Go.Proofs.Ytkiijldiofbflaa
open Go.RowKit Go.Shelf
attribute [local go_sem] Oper.semAt_some

set_option maxRecDepth 100000 in
set_option maxHeartbeats 3200000 in
theorem fillBack_any (x : Int) (A : Option Addr) (m d g h c1 c2 : Nat) (b : List Int) (G F : Nat → Int) (w0 w : World) (hm : b.length = m) (hm' : m ≤ 1048576) (hb : Row w0 A (iv b)) (h0 : Below w0.heap.size w0 w) (hg0 : w0.heap.size ≤ g) (hgh : g ≠ h) (rG : IsRow w h (m + 1) G) (rF : IsRow w g (m + 1) F) :
    Calls Try.prog 35 #[.int .i64 x, .slice A m d, .slice (some ⟨h, 0, none⟩) (m + 1) c1, .slice (some ⟨g, 0, none⟩) (m + 1) c2] w fun e w' => (∃ v, e = .returned v) ∧ IsRow w' g (m + 1) (fillB x b G F) ∧ w.grownBy w' (some g) := by
  have HM := Lib.hid hm
  clear hm
  refine (callsIn_wide (n := 3)).1 ?_
  refine callsIn_of_wp_marks Try.func35 rfl trivial ?_ rfl
  simp only [Try.ntmps35, List.size_toArray, List.length_cons, List.length_nil, Nat.reduceAdd, Nat.reduceSub, Array.replicate_succ, Array.replicate_zero, List.push_toArray, List.append_toArray, List.nil_append, List.cons_append]
  gi_wp2_with (refine ⟨trivial, ?_⟩; gi_at_call 34; refine (back_in _ _ _ _ _).mono ?_; rintro e w' ⟨rfl, rfl⟩)
  have hgw : g < w.heap.size := World.rowIs.lt rF
  have bN := Boxed.new (((w.alloc (.cells #[.int .i64 x] 3)).alloc (.cells #[.slice (some ⟨h, 0, none⟩) (m + 1) c1] 25)).alloc (.cells #[.slice (some ⟨g, 0, none⟩) (m + 1) c2] 25)) 25 (.slice A m d)
  simp only [World.size_alloc] at bN
  have hs := h0.size
  have HI : FbI x b h g m c1 c2 G F w [] ((((w.alloc (.cells #[.int .i64 x] 3)).alloc (.cells #[.slice (some ⟨h, 0, none⟩) (m + 1) c1] 25)).alloc (.cells #[.slice (some ⟨g, 0, none⟩) (m + 1) c2] 25)).alloc (.cells #[.slice A m d] 25)) := by
    refine ⟨(((World.rowIs.alloc rF _).alloc _).alloc _).alloc _, (((World.rowIs.alloc rG _).alloc _).alloc _).alloc _, (((Boxed.new w _ _).alloc _).alloc _).alloc _, ?_, ?_, grown_alloc (grown_alloc (grown_alloc (grown_alloc (World.grownBy.refl _ _) _) _) _) _⟩
    · have := Boxed.new (w.alloc (.cells #[.int .i64 x] 3)) 25 (.slice (some ⟨h, 0, none⟩) (m + 1) c1)
      simp only [World.size_alloc] at this
      exact (this.alloc _).alloc _
    · have := Boxed.new ((w.alloc (.cells #[.int .i64 x] 3)).alloc (.cells #[.slice (some ⟨h, 0, none⟩) (m + 1) c1] 25)) 25 (.slice (some ⟨g, 0, none⟩) (m + 1) c2)
      simp only [World.size_alloc] at this
      exact this.alloc _
  have hB1 : Below w0.heap.size w0 ((((w.alloc (.cells #[.int .i64 x] 3)).alloc (.cells #[.slice (some ⟨h, 0, none⟩) (m + 1) c1] 25)).alloc (.cells #[.slice (some ⟨g, 0, none⟩) (m + 1) c2] 25)).alloc (.cells #[.slice A m d] 25)) :=
    (((h0.alloc hs _).alloc (by simp; omega) _).alloc (by simp; omega) _).alloc (by simp; omega) _
  have hsz : ((((w.alloc (.cells #[.int .i64 x] 3)).alloc (.cells #[.slice (some ⟨h, 0, none⟩) (m + 1) c1] 25)).alloc (.cells #[.slice (some ⟨g, 0, none⟩) (m + 1) c2] 25)).alloc (.cells #[.slice A m d] 25)).heap.size = w.heap.size + 1 + 1 + 1 + 1 := by simp
  generalize ((((w.alloc (.cells #[.int .i64 x] 3)).alloc (.cells #[.slice (some ⟨h, 0, none⟩) (m + 1) c1] 25)).alloc (.cells #[.slice (some ⟨g, 0, none⟩) (m + 1) c2] 25)).alloc (.cells #[.slice A m d] 25)) = wl at *
  refine wpIn_rangeFunc_ownG rfl (by omega) (gf := 37) (lb := #[.pointer (some ⟨w.heap.size + 1 + 1 + 1, 0, none⟩)]) rfl trivial (enters_of Try.func37 (by kernel_rfl) rfl)
    (back_stops _ (by omega) (w.heap.size + 1 + 1 + 1) A m d b w0 wl HM.out hm' hb hB1 bN) kpB_t (kpB_b (by omega) (by omega)) (Below.refl _ _) (fun _ => rfl)
    (FbI x b h g m c1 c2 G F w) (fun _ _ _ => False) (fbI_own (by omega)) (fun _ _ _ _ _ hs _ _ => hs) HI
    (fun p => { tmps := #[.int .i64 x, .slice A m d, .slice (some ⟨h, 0, none⟩) (m + 1) c1, .slice (some ⟨g, 0, none⟩) (m + 1) c2, .pointer (some ⟨w.heap.size, 0, none⟩), undef, .pointer (some ⟨w.heap.size + 1, 0, none⟩), .pointer (some ⟨w.heap.size + 1 + 1, 0, none⟩), .int .i64 (p.1.1 : Int), .int .i64 p.1.2, .slice A m d, .func (.func 37) #[] #[.pointer (some ⟨w.heap.size + 1 + 1 + 1, 0, none⟩)], .int .i64 (p.1.1 : Int), .int .i64 p.1.2, undef, undef, undef, undef, undef, undef, undef, undef, undef, undef, undef, undef, undef, undef, undef, undef, undef, undef, undef, undef, undef, undef, undef, undef, undef], defers := [] }) ?assign ?body ?done ?stop
  case assign =>
    intro l p W K hK
    simp only [encI]
    gi_wp2
    exact hK
  case body =>
    rintro l pre ⟨⟨j, y⟩, hx⟩ W hI _
    have hj : j < m := by rw [← HM.out]; exact (List.getElem?_eq_some_iff.1 hx).1
    have R := Lib.hid (fun v hv => fbP_step (B := wl.heap.size) (n₀ := w0.heap.size) (v := v) hI hx hgh hg0 hgw hv)
    obtain ⟨h1, h2, h3, h4, h5, h6⟩ := hI
    have HS : Hid (FbS x h g m c1 c2 j G ((pre.map Subtype.val).foldl (stepB x G) F) w.heap.size W) := ⟨h3.cell, h4.cell, h5.cell, World.rowIs.cell h2 (i := j + 1) (by omega), World.rowIs.cell h2 (i := j) (by omega), World.rowIs.cell h1 (i := j + 1) (by omega)⟩
    have HT : Hid (∀ v, FbS x h g m c1 c2 j G ((pre.map Subtype.val).foldl (stepB x G) F) w.heap.size (W.setCell ⟨g, j, none⟩ v)) := fun v => fbS_set HS.out hgw hgh ⟨_, h1⟩ hj v
    have b1 := h3.cell
    have t3 := World.rowIs.cell h1 (i := j) (by omega)
    have t5 := World.rowIs.frozen h1 j
    have hmx : Try.prog.follows .mixedOrders = true := by kernel_rfl
    generalize (pre.map Subtype.val).foldl (stepB x G) F = F' at *
    clear h1 h2 h3 h4 h5 h6 rG rF hb h0 HI hB1 bN
    have ew : IntKind.i64.wrap ((j : Int) + 1) = ((j + 1 : Nat) : Int) := by rw [IntWalk.i64_in _ (by omega)]; rfl
    dsimp only
    by_cases heq : x = y
    · subst heq
      have HV : Hid (stepB x G F' (j, x) j = IntKind.i64.wrap (G (j + 1) + 1)) := by show _ = _; simp [stepB]
      gi_wp2
      refine region_held (FbS x h g m c1 c2 j G F' w.heap.size) (by kernel_rfl) (fun ⟨_, _, h⟩ => h) hmx ?_
      refine wpAnyH_take (i := 0) (v := ?v1) rfl (by kernel_rfl) (by kernel_rfl) (by kernel_rfl) (fun _ _ _ h => h) (.inl ⟨by rfl, ?y1⟩) HS.out ?_
      case y1 =>
        rintro w' ⟨s1, s2, s3, s4, s5, s6⟩
        go_simp
        try simp only [ew]
        try rw [if_pos (by omega)]
        try simp only [Int.toNat_natCast]
        first | done | with_reducible rfl
      refine wpAnyH_take (i := 1) (v := ?v2) rfl (by kernel_rfl) (by kernel_rfl) (by kernel_rfl) (fun _ _ _ h => h) (.inl ⟨by rfl, ?y2⟩) HS.out ?_
      case y2 =>
        rintro w' ⟨s1, s2, s3, s4, s5, s6⟩
        go_simp
        try simp only [ew]
        try rw [if_pos (by omega)]
        try simp only [Int.toNat_natCast]
        first | done | with_reducible rfl
      refine wpAnyH_take (i := 2) (v := ?v3) rfl (by kernel_rfl) (by kernel_rfl) (by kernel_rfl) (fun _ _ _ h => h) (.inl ⟨by rfl, ?y3⟩) HS.out ?_
      case y3 =>
        rintro w' ⟨s1, s2, s3, s4, s5, s6⟩
        go_simp
        try simp only [ew]
        try rw [if_pos (by omega)]
        try simp only [Int.toNat_natCast]
        first | done | with_reducible rfl
      refine wpAnyH_take (i := 3) (v := ?v4) rfl (by kernel_rfl) (by kernel_rfl) (by kernel_rfl) (fun _ _ _ h => h) (.inl ⟨by rfl, ?y4⟩) HS.out ?_
      case y4 =>
        rintro w' ⟨s1, s2, s3, s4, s5, s6⟩
        go_simp
        try simp only [ew]
        try rw [if_pos (by omega)]
        try simp only [Int.toNat_natCast]
        first | done | with_reducible rfl
      refine wpAnyH_take (i := 4) (v := ?v5) rfl (by kernel_rfl) (by kernel_rfl) (by kernel_rfl) (fun _ _ _ h => h) (.inl ⟨by rfl, ?y5⟩) HS.out ?_
      case y5 =>
        rintro w' ⟨s1, s2, s3, s4, s5, s6⟩
        go_simp
        try simp only [ew]
        try rw [if_pos (by omega)]
        try simp only [Int.toNat_natCast]
        first | done | with_reducible rfl
      refine wpAnyH_take (i := 5) (v := ?v6) rfl (by kernel_rfl) (by kernel_rfl) (by kernel_rfl) (fun _ _ _ h => h) (.inl ⟨by rfl, ?y6⟩) HS.out ?_
      case y6 =>
        rintro w' ⟨s1, s2, s3, s4, s5, s6⟩
        go_simp
        try simp only [ew]
        try rw [if_pos (by omega)]
        try simp only [Int.toNat_natCast]
        first | done | with_reducible rfl
      refine wpAnyH_take (i := 6) (v := ?v7) rfl (by kernel_rfl) (by kernel_rfl) (by kernel_rfl) (fun _ _ _ h => h) (.inl ⟨by rfl, ?y7⟩) HS.out ?_
      case y7 =>
        rintro w' ⟨s1, s2, s3, s4, s5, s6⟩
        go_simp
        try simp only [ew]
        try rw [if_pos (by omega)]
        try simp only [Int.toNat_natCast]
        first | done | with_reducible rfl
      refine wpAnyH_take (i := 7) (v := ?v8) rfl (by kernel_rfl) (by kernel_rfl) (by kernel_rfl) (fun _ _ _ h => h) (.inl ⟨by rfl, ?y8⟩) HS.out ?_
      case y8 =>
        rintro w' ⟨s1, s2, s3, s4, s5, s6⟩
        go_simp
        try simp only [ew]
        try rw [if_pos (by omega)]
        try simp only [Int.toNat_natCast]
        first | done | with_reducible rfl
      refine wpAnyH_take (i := 8) (v := ?v9) rfl (by kernel_rfl) (by kernel_rfl) (by kernel_rfl) (fun _ _ _ h => h) (.inl ⟨by rfl, ?y9⟩) HS.out ?_
      case y9 =>
        rintro w' ⟨s1, s2, s3, s4, s5, s6⟩
        go_simp
        try simp only [ew]
        try rw [if_pos (by omega)]
        try simp only [Int.toNat_natCast]
        first | done | with_reducible rfl
      refine held_last (i := 9) (by kernel_rfl) (by kernel_rfl) rfl (by rfl) ?_
      go_simp
      exact ⟨HT.out _, (R.out _ HV.out.symm).drew⟩
    · have hz : (y == x) = false := by simpa using Ne.symm heq
      have HV : Hid (stepB x G F' (j, y) j = if G j < F' (j + 1) then F' (j + 1) else G j) := by show _ = _; simp [stepB, heq]
      clear heq
      gi_wp2
      refine region_held (FbS x h g m c1 c2 j G F' w.heap.size) (by kernel_rfl) (fun ⟨_, _, h⟩ => h) hmx ?_
      refine wpAnyH_take (i := 0) (v := ?v10) rfl (by kernel_rfl) (by kernel_rfl) (by kernel_rfl) (fun _ _ _ h => h) (.inl ⟨by rfl, ?y10⟩) HS.out ?_
      case y10 =>
        rintro w' ⟨s1, s2, s3, s4, s5, s6⟩
        go_simp
        try simp only [ew]
        try rw [if_pos (by omega)]
        try simp only [Int.toNat_natCast]
        first | done | with_reducible rfl
      refine wpAnyH_take (i := 1) (v := ?v11) rfl (by kernel_rfl) (by kernel_rfl) (by kernel_rfl) (fun _ _ _ h => h) (.inl ⟨by rfl, ?y11⟩) HS.out ?_
      case y11 =>
        rintro w' ⟨s1, s2, s3, s4, s5, s6⟩
        go_simp
        try simp only [ew]
        try rw [if_pos (by omega)]
        try simp only [Int.toNat_natCast]
        first | done | with_reducible rfl
      refine wpAnyH_take (i := 2) (v := ?v12) rfl (by kernel_rfl) (by kernel_rfl) (by kernel_rfl) (fun _ _ _ h => h) (.inl ⟨by rfl, ?y12⟩) HS.out ?_
      case y12 =>
        rintro w' ⟨s1, s2, s3, s4, s5, s6⟩
        go_simp
        try simp only [ew]
        try rw [if_pos (by omega)]
        try simp only [Int.toNat_natCast]
        first | done | with_reducible rfl
      refine wpAnyH_take (i := 3) (v := ?v13) rfl (by kernel_rfl) (by kernel_rfl) (by kernel_rfl) (fun _ _ _ h => h) (.inl ⟨by rfl, ?y13⟩) HS.out ?_
      case y13 =>
        rintro w' ⟨s1, s2, s3, s4, s5, s6⟩
        go_simp
        try simp only [ew]
        try rw [if_pos (by omega)]
        try simp only [Int.toNat_natCast]
        first | done | with_reducible rfl
      refine wpAnyH_take (i := 4) (v := ?v14) rfl (by kernel_rfl) (by kernel_rfl) (by kernel_rfl) (fun _ _ _ h => h) (.inl ⟨by rfl, ?y14⟩) HS.out ?_
      case y14 =>
        rintro w' ⟨s1, s2, s3, s4, s5, s6⟩
        go_simp
        try simp only [ew]
        try rw [if_pos (by omega)]
        try simp only [Int.toNat_natCast]
        first | done | with_reducible rfl
      refine wpAnyH_take (i := 5) (v := ?v15) rfl (by kernel_rfl) (by kernel_rfl) (by kernel_rfl) (fun _ _ _ h => h) (.inl ⟨by rfl, ?y15⟩) HS.out ?_
      case y15 =>
        rintro w' ⟨s1, s2, s3, s4, s5, s6⟩
        go_simp
        try simp only [ew]
        try rw [if_pos (by omega)]
        try simp only [Int.toNat_natCast]
        first | done | with_reducible rfl
      refine wpAnyH_take (i := 6) (v := ?v16) rfl (by kernel_rfl) (by kernel_rfl) (by kernel_rfl) (fun _ _ _ h => h) (.inl ⟨by rfl, ?y16⟩) HS.out ?_
      case y16 =>
        rintro w' ⟨s1, s2, s3, s4, s5, s6⟩
        go_simp
        try simp only [ew]
        try rw [if_pos (by omega)]
        try simp only [Int.toNat_natCast]
        first | done | with_reducible rfl
      refine wpAnyH_take (i := 7) (v := ?v17) rfl (by kernel_rfl) (by kernel_rfl) (by kernel_rfl) (fun _ _ _ h => h) (.inl ⟨by rfl, ?y17⟩) HS.out ?_
      case y17 =>
        rintro w' ⟨s1, s2, s3, s4, s5, s6⟩
        go_simp
        try simp only [ew]
        try rw [if_pos (by omega)]
        try simp only [Int.toNat_natCast]
        first | done | with_reducible rfl
      refine wpAnyH_take (i := 8) (v := ?v18) rfl (by kernel_rfl) (by kernel_rfl) (by kernel_rfl) (fun _ _ _ h => h) (.inl ⟨by rfl, ?y18⟩) HS.out ?_
      case y18 =>
        rintro w' ⟨s1, s2, s3, s4, s5, s6⟩
        go_simp
        try simp only [ew]
        try rw [if_pos (by omega)]
        try simp only [Int.toNat_natCast]
        first | done | with_reducible rfl
      refine wpAnyH_take (i := 9) (v := ?v19) rfl (by kernel_rfl) (by kernel_rfl) (by kernel_rfl) (fun _ _ _ h => h) (.inl ⟨by rfl, ?y19⟩) HS.out ?_
      case y19 =>
        rintro w' ⟨s1, s2, s3, s4, s5, s6⟩
        go_simp
        try simp only [ew]
        try rw [if_pos (by omega)]
        try simp only [Int.toNat_natCast]
        first | done | with_reducible rfl
      refine wpAnyH_take (i := 10) (v := ?v20) rfl (by kernel_rfl) (by kernel_rfl) (by kernel_rfl) (fun _ _ _ h => h) (.inl ⟨by rfl, ?y20⟩) HS.out ?_
      case y20 =>
        rintro w' ⟨s1, s2, s3, s4, s5, s6⟩
        go_simp
        try simp only [ew]
        try rw [if_pos (by omega)]
        try simp only [Int.toNat_natCast]
        first | done | with_reducible rfl
      refine wpAnyH_take (i := 11) (v := ?v21) rfl (by kernel_rfl) (by kernel_rfl) (by kernel_rfl) (fun _ _ _ h => h) (.inl ⟨by rfl, ?y21⟩) HS.out ?_
      case y21 =>
        rintro w' ⟨s1, s2, s3, s4, s5, s6⟩
        go_simp
        try simp only [ew]
        try rw [if_pos (by omega)]
        try simp only [Int.toNat_natCast]
        first | done | with_reducible rfl
      refine wpAnyH_take (i := 12) (v := ?v22) rfl (by kernel_rfl) (by kernel_rfl) (by kernel_rfl) (fun _ _ _ h => h) (.inl ⟨by rfl, ?y22⟩) HS.out ?_
      case y22 =>
        rintro w' ⟨s1, s2, s3, s4, s5, s6⟩
        go_simp
        try simp only [ew]
        try rw [if_pos (by omega)]
        try simp only [Int.toNat_natCast]
        first | done | with_reducible rfl
      refine held_last (i := 13) (by kernel_rfl) (by kernel_rfl) rfl (by rfl) ?_
      go_simp
      exact ⟨HT.out _, (R.out _ HV.out.symm).drew⟩
  case done =>
    rintro D ys W hD hS ⟨h1, h2, h3, h4, h5, h6⟩ hK
    gi_wp2
    refine ⟨by simp, .inl ⟨_, _, rfl, run_takeDeferred hK, ?_⟩⟩
    refine ⟨_, results_none rfl _ _ _, ⟨_, rfl⟩, ?_, grown_more h6 (grownBy_putObj' W D _) (fun r e => by cases e; exact .inl (by omega))⟩
    have := rowIs_kept h1 (grownBy_putObj' W D (.deferred none)) (fun r e => by cases e; exact ⟨_, hK, rfl⟩)
    rw [hS] at this
    exact this
  case stop =>
    rintro D c pre W _ _ h _
    exact h.elim


end Go.Proofs.Ytkiijldiofbflaa
