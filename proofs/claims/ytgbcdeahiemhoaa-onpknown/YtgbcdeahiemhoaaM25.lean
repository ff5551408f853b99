/-
  Words and contracts that the proof leans on.
-/
import Derived.Test.YtgbcdeahiemhoaaM22
import Derived.Test.YtgbcdeahiemhoaaM24
import Derived.BigRegion
namespace Go.Proofs.Ytgbcdeahiemhoaa
open Go.RowKit

set_option maxRecDepth 100000 in
/-- A piece of a row from its head on. -/
theorem far_slice (G L lo t k : Nat) (h : lo + k = t + 1) (ht : t + 1 ≤ L) (hlo : lo < L) :
    ∀ w, (Instr.sliceAt 24 (.slice (some ⟨G, 0, none⟩) L L) (some (.int .i64 (lo : Int))) (some (.int .i64 ((t : Int) + 1))) none).run Try.prog w = .ok (.slice (some ⟨G, lo, none⟩) k (L - lo)) w := fun w => by
  rw [run_sliceAt_slice w 24 _ _ _ _ Try.underlying24, run_slice_lh w 24 (some ⟨G, 0, none⟩) L L Try.underlying24 .i64 .i64 (lo : Int) ((t : Int) + 1) (by omega) (by omega) (by omega), size_int]
  have e : t + 1 - lo = k := by omega
  simp [Result.andThen, sliced, e, show ¬ L = lo by omega, Addr.add_lit]

/-- The points that Far gives, as a piece of the front. -/
theorem far_row {A B : Option Addr} {n m c d W F G P : Nat} {x y : List Int} {w : World} (h : FrO A B n m c d W F G (P : Int) (frT x y W P) w) (hx : x.length = n) (hW : n + W = m) (hP : P ≤ n) :
    Row w (some ⟨G, n + 1 - P, none⟩) (iv (farL x y W P)) := by
  intro _
  refine ⟨G, n + 1 - P, rfl, fun j v hv => ?_⟩
  have hj : j < W + 2 * P + 1 := by
    have := (List.getElem?_eq_some_iff.1 hv).1
    rw [iv_length, farL_length] at this
    exact this
  have hc := h.at (t := n + 1 - P + j) (by omega)
  unfold iv at hv
  rw [List.getElem?_map, farL_get hj] at hv
  injection hv with hv
  subst hv
  rw [hc]
  unfold frT
  rw [hx, show ((n + 1 - P + j : Nat) : Int) - n - 1 = (j : Int) - P by omega]

/-- The cost, as it stands in memory. -/
def costOf (F : Nat) (w : World) : Int := intOf ((w.cell? ⟨F, 3, none⟩).getD undef)
theorem costOf_is {F : Nat} {w : World} {p : Int} (h : w.cell? ⟨F, 3, none⟩ = some (.int .i64 p)) : costOf F w = p := by
  unfold costOf
  rw [h]
  rfl
def OfRel (A B : Option Addr) (n m c d W F G Q : Nat) (x y : List Int) (w0 : World) (wr : World) : Prop := ∃ P : Nat, P ≤ Q + 1 ∧ FrS A B n m c d W F G P x y w0 wr
def OfS (A : Option Addr) (n c W F N G : Nat) (w : World) : Prop := w.cell? ⟨F, 0, none⟩ = some (.slice A n c) ∧ w.cell? ⟨F, 2, none⟩ = some (.int .i64 (W : Int)) ∧ w.cell? ⟨F, 4, none⟩ = some (.slice (some ⟨G, 0, none⟩) N N)
theorem OfS.below {A : Option Addr} {n c W F N G : Nat} {w w' : World} (h : OfS A n c W F N G w) (hb : Below w.heap.size w w') : OfS A n c W F N G w' :=
  ⟨(hb.cell (p := ⟨F, 0, none⟩) (World.block_lt_of_cell? _ _ h.1)).trans h.1, (hb.cell (p := ⟨F, 2, none⟩) (World.block_lt_of_cell? _ _ h.2.1)).trans h.2.1, (hb.cell (p := ⟨F, 4, none⟩) (World.block_lt_of_cell? _ _ h.2.2)).trans h.2.2⟩

set_option maxRecDepth 100000 in
set_option maxHeartbeats 1600000 in
theorem ofar_any (A B : Option Addr) (n m c d : Nat) (p : Int) (a b : List Int) (w : World) (hn : a.length = n) (hm : b.length = m) (hc : n ≤ c) (hd : m ≤ d) (hb : n ≤ 1048576) (hb' : m ≤ 1048576) (h1 : Row w A (iv a)) (h2 : Row w B (iv b)) :
    Calls Try.prog 10 #[.slice A n c, .slice B m d, .int .i64 p] w (MadeI (farI a b p) w) := by
  have CO := Lib.hid (ordered_any A B n m c d a b w hn hm hc hd h1 h2)
  obtain ⟨hl1, hl2, hl3, hl4, hl5⟩ := sht_len a b
  clear hl4 hl5
  rw [hn, hm] at hl1 hl2
  have HO : Hid (¬ (0 ≤ p ∧ p ≤ ((sht a b).length : Int)) → farI a b p = []) := farI_out
  have HI : Hid (∀ Q : Nat, Q ≤ (sht a b).length → p = (Q : Int) → farI a b p = farL (sht a b) (lng a b) (wdt a b) Q) := fun Q h e => by rw [e]; exact farI_in h
  clear h1 h2 hn hm hc hd
  generalize farI a b p = res at *
  go_enter Try.func10, Try.ntmps10
  go_wp2_with fail
  refine CO.out.mono ?_
  rintro e w1 ⟨A', B', N, M, C, D, t, rfl, ⟨hx, hy, hc, hd, r1, r2, ht⟩, rfl⟩
  clear CO ht
  generalize sht a b = x at *
  generalize lng a b = y at *
  generalize wdt a b = W at *
  rw [hx] at hl1 hl3 HO HI
  rw [hy] at hl2 hl3
  by_cases hp0 : p < 0
  · have e := HO.out (by omega)
    have HF : Hid (MadeI res w1 (.returned (.slice none 0 0)) w1) := by rw [e]; exact ⟨_, rfl, World.ownsRow_nil _ _ _ _, Below.refl _ _⟩
    clear e HO HI r1 r2 hl1 hl2 hl3 hx hy hc hd
    go_wp2_with fail
    go_ret
    exact HF.out
  by_cases hp1 : (N : Int) < p
  · have e := HO.out (by omega)
    have HF : Hid (MadeI res w1 (.returned (.slice none 0 0)) w1) := by rw [e]; exact ⟨_, rfl, World.ownsRow_nil _ _ _ _, Below.refl _ _⟩
    clear e HO HI r1 r2 hl1 hl2 hl3 hx hy hc hd
    go_wp2_with fail
    go_ret
    exact HF.out
  obtain ⟨Q, rfl⟩ : ∃ Q : Nat, p = (Q : Int) := ⟨p.toNat, by omega⟩
  have hQ : Q ≤ N := by omega
  obtain rfl := HI.out Q hQ rfl
  clear HO HI hp0 hp1
  have hN : N ≤ 1048576 := by omega
  have hM : M ≤ 1048576 := by omega
  have CN := Lib.hid (newFront_any A' B' N M C D W w1 hN hM hl3)
  have HA : Hid (∀ F G P w, P ≤ N → w1.heap.size ≤ F → w1.heap.size ≤ G → FrS A' B' N M C D W F G P x y w1 w → _) := fun F G P w hP hF hG h => adv_none 27 far1_any (enters_of Try.func27 (by kernel_rfl) rfl) A' B' N M C D W F G P x y w1 w hx hy hc hd hN hM hl3 hP r1 r2 hF hG h
  have hx' := Lib.hid hx
  clear hl1 hl2 r1 r2 hc hd hx hy
  go_wp2_with fail
  refine CN.out.mono ?_
  rintro e w2 ⟨F, G, rfl, hF, hg1, hg2, hb2⟩
  have HI : Hid (OfRel A' B' N M C D W F G Q x y w1 w2) := ⟨0, Nat.zero_le _, FrS.start hF hb2⟩
  clear CN hF hb2
  go_wp2_with fail
  go_loopw [29] (fun _ wr => OfRel A' B' N M C D W F G Q x y w1 wr) (fun _ wr => ((Q : Int) - costOf F wr).toNat)
  case atStart => exact HI.out
  case round =>
    clear HI
    obtain ⟨P, hP, hf⟩ := hrel
    have c3 := hf.fro.c3
    by_cases hlt : P < Q + 1
    · have HC1 := Lib.hid (HA.out F G P wr (by omega) hg1 hg2 hf)
      have HN : Hid (∀ w', FrS A' B' N M C D W F G (P + 1) x y w1 w' → OfRel A' B' N M C D W F G Q x y w1 w' ∧ ((Q : Int) - costOf F w').toNat < ((Q : Int) - costOf F wr).toNat) := fun w' h => by
        refine ⟨⟨P + 1, by omega, h⟩, ?_⟩
        rw [costOf_is h.fro.c3, costOf_is hf.fro.c3]
        omega
      clear hf HA
      go_wp2_with fail
      refine HC1.out.mono ?_
      rintro e w4 ⟨rfl, hf2⟩
      have R := Lib.hid (HN.out _ hf2)
      clear HC1 HN hf2
      go_wp2_with fail
      go_roundw
      case rel => first | exact R.out.1 | ((repeat apply Exists.intro); exact ⟨R.out.1, rfl⟩)
      case measure => exact R.out.2
    · obtain rfl : P = Q + 1 := by omega
      have e1 : ((Q + 1 : Nat) : Int) - 1 = (Q : Int) := by simp
      have hfo := hf.fro
      have hbw := hf.below
      rw [e1] at hfo c3
      clear HA e1 hf
      have hmx : Try.prog.follows .mixedOrders = true := by kernel_rfl
      obtain ⟨lo, hlo⟩ : ∃ z, N + 1 - Q = z := ⟨_, rfl⟩
      obtain ⟨hi, hhi⟩ : ∃ z, W + Q + N + 1 = z := ⟨_, rfl⟩
      obtain ⟨K, hK⟩ : ∃ z, W + 2 * Q + 1 = z := ⟨_, rfl⟩
      obtain ⟨L, hL⟩ : ∃ z, N + M + 3 = z := ⟨_, rfl⟩
      have r0 := far_row hfo hx'.out hl3 hQ
      have hlen := farL_length x y W Q
      rw [hlo] at r0
      rw [hK] at hlen
      have hsl := far_slice G L lo hi K (by omega) (by omega) (by omega)
      have CP1 := Lib.hid (fun q => oplace_any A' N C F lo (-(Q : Int)) (wr.drew.drewN q) hfo.c0 (by omega) (by omega))
      have CP2 := Lib.hid (fun q => oplace_any A' N C F hi ((W : Int) + (Q : Int)) (wr.drew.drewN q) hfo.c0 (by omega) (by omega))
      have CC := Lib.hid (fun q => clone_big (some ⟨G, lo, none⟩) K (L - lo) (farL x y W Q) (wr.drew.drewN q) hlen (by omega) (fun e => by cases e) (r0.drew.drewN q))
      have HF : Hid (∀ (q : Nat) (e : Ending) (w' : World), MadeI (farL x y W Q) (wr.drew.drewN q) e w' → MadeI (farL x y W Q) w1 e w') := fun q e w' ⟨v, q1, q2, q3⟩ => ⟨v, q1, own_lower q2 (by have := hbw.size; simpa using this), hbw.trans ((below_drewN (Below.refl _ _).drew q).trans (q3.mono (by have := hbw.size; simpa using this)))⟩
      have HS0 : Hid (OfS A' N C W F L G wr.drew) := ⟨hfo.c0, hfo.c2, by rw [← hL]; exact hfo.c4⟩
      have q1 : IntKind.i64.wrap (-(Q : Int)) = -(Q : Int) := IntWalk.i64_in _ (by omega)
      have q2 : IntKind.i64.wrap ((W : Int) + (Q : Int)) = (W : Int) + (Q : Int) := IntWalk.i64_in _ (by omega)
      have q3 : IntKind.i64.wrap ((hi : Int) + 1) = (hi : Int) + 1 := IntWalk.i64_in _ (by omega)
      clear hfo hbw r0 hlen hlo hhi hK hL
      generalize farL x y W Q = res at *
      go_wp2_with fail

      refine wp_region_held (S := OfS A' N C W F L G) hmx ?_
      refine wpAnyH_take (i := 0) (v := ?v1) rfl (by kernel_rfl) (by kernel_rfl) (by kernel_rfl) (fun _ _ _ h => h) (.inl ⟨by kernel_rfl, ?y1⟩) HS0.out ?_
      case y1 =>
        rintro w' ⟨s0, s2, s4⟩
        go_simp
        first | done | with_reducible rfl | rfl
      try simp only [Act.put]
      refine wpAnyH_take (i := 1) (v := ?v2) rfl (by kernel_rfl) (by kernel_rfl) (by kernel_rfl) (fun _ _ _ h => h) (.inl ⟨by kernel_rfl, ?y2⟩) HS0.out ?_
      case y2 =>
        rintro w' ⟨s0, s2, s4⟩
        go_simp
        first | done | with_reducible rfl | rfl
      try simp only [Act.put]
      refine wpAnyH_take (i := 2) (v := ?v3) rfl (by kernel_rfl) (by kernel_rfl) (by kernel_rfl) (fun _ _ _ h => h) (.inl ⟨by kernel_rfl, ?y3⟩) HS0.out ?_
      case y3 =>
        rintro w' ⟨s0, s2, s4⟩
        go_simp
        first | done | with_reducible rfl | rfl
      try simp only [Act.put]
      refine wpAnyH_take (i := 3) (v := ?v4) rfl (by kernel_rfl) (by kernel_rfl) (by kernel_rfl) (fun _ _ _ h => h) (.inl ⟨by kernel_rfl, ?y4⟩) HS0.out ?_
      case y4 =>
        rintro w' ⟨s0, s2, s4⟩
        go_simp
        first | done | with_reducible rfl | rfl
      try simp only [Act.put]
      refine wpAnyH_take (i := 4) (v := ?v5) rfl (by kernel_rfl) (by kernel_rfl) (by kernel_rfl) (fun _ _ _ h => h) (.inl ⟨by kernel_rfl, ?y5⟩) HS0.out ?_
      case y5 =>
        rintro w' ⟨s0, s2, s4⟩
        go_simp
        first | done | with_reducible rfl | rfl
      try simp only [Act.put]
      refine wpAnyH_take (i := 5) (v := ?v6) rfl (by kernel_rfl) (by kernel_rfl) (by kernel_rfl) (fun _ _ _ h => h) (.inl ⟨by kernel_rfl, ?y6⟩) HS0.out ?_
      case y6 =>
        rintro w' ⟨s0, s2, s4⟩
        go_simp
        first | done | with_reducible rfl | rfl
      try simp only [Act.put]
      refine wpAnyH_take (i := 6) (v := ?v7) rfl (by kernel_rfl) (by kernel_rfl) (by kernel_rfl) (fun _ _ _ h => h) (.inl ⟨by kernel_rfl, ?y7⟩) HS0.out ?_
      case y7 =>
        rintro w' ⟨s0, s2, s4⟩
        go_simp
        first | done | with_reducible rfl | rfl
      try simp only [Act.put]
      refine wpAnyH_take (i := 8) (v := ?v8) rfl (by kernel_rfl) (by kernel_rfl) (by kernel_rfl) (fun _ _ _ h => h) (.inl ⟨by kernel_rfl, ?y8⟩) HS0.out ?_
      case y8 =>
        rintro w' ⟨s0, s2, s4⟩
        go_simp
        first | done | with_reducible rfl | rfl
      try simp only [Act.put]
      refine wpAnyH_take (i := 9) (v := ?v9) rfl (by kernel_rfl) (by kernel_rfl) (by kernel_rfl) (fun _ _ _ h => h) (.inl ⟨by kernel_rfl, ?y9⟩) HS0.out ?_
      case y9 =>
        rintro w' ⟨s0, s2, s4⟩
        go_simp
        first | done | with_reducible rfl | rfl
      try simp only [Act.put]
      refine wpAnyH_take (i := 10) (v := ?v10) rfl (by kernel_rfl) (by kernel_rfl) (by kernel_rfl) (fun _ _ _ h => h) (.inl ⟨by kernel_rfl, ?y10⟩) HS0.out ?_
      case y10 =>
        rintro w' ⟨s0, s2, s4⟩
        go_simp
        first | done | with_reducible rfl | rfl
      try simp only [Act.put]
      refine wpAnyH_take (i := 11) (v := ?v11) rfl (by kernel_rfl) (by kernel_rfl) (by kernel_rfl) (fun _ _ _ h => h) (.inl ⟨by kernel_rfl, ?y11⟩) HS0.out ?_
      case y11 =>
        rintro w' ⟨s0, s2, s4⟩
        go_simp
        first | done | with_reducible rfl | rfl
      try simp only [Act.put]
      refine wpAnyH_take (i := 12) (v := ?v12) rfl (by kernel_rfl) (by kernel_rfl) (by kernel_rfl) (fun _ _ _ h => h) (.inl ⟨by kernel_rfl, ?y12⟩) HS0.out ?_
      case y12 =>
        rintro w' ⟨s0, s2, s4⟩
        go_simp
        first | done | with_reducible rfl | rfl
      try simp only [Act.put]
      refine wpAnyH_take (i := 13) (v := ?v13) rfl (by kernel_rfl) (by kernel_rfl) (by kernel_rfl) (fun _ _ _ h => h) (.inl ⟨by kernel_rfl, ?y13⟩) HS0.out ?_
      case y13 =>
        rintro w' ⟨s0, s2, s4⟩
        go_simp
        first | done | with_reducible rfl | rfl
      try simp only [Act.put]
      refine wpAnyH_take (i := 14) (v := ?v14) rfl (by kernel_rfl) (by kernel_rfl) (by kernel_rfl) (fun _ _ _ h => h) (.inl ⟨by kernel_rfl, ?y14⟩) HS0.out ?_
      case y14 =>
        rintro w' ⟨s0, s2, s4⟩
        go_simp
        first | done | with_reducible rfl | rfl
      try simp only [Act.put]
      refine held_one (i := 7) (by kernel_rfl) rfl (by kernel_rfl) ?_
      unfold Oper.wp
      go_simp
      refine ((CP1.out 0)).mono ?_
      rintro e w5 ⟨rfl, e5⟩
      obtain rfl : w5 = wr.drew := e5
      clear CP1
      refine ⟨HS0.out, ?_⟩
      try simp only [Act.put]
      refine held_one (i := 15) (by kernel_rfl) rfl (by kernel_rfl) ?_
      unfold Oper.wp
      go_simp
      refine ((CP2.out 0)).mono ?_
      rintro e w5 ⟨rfl, e5⟩
      obtain rfl : w5 = wr.drew := e5
      clear CP2
      refine ⟨HS0.out, ?_⟩
      try simp only [Act.put]
      refine wpAnyH_take (i := 16) (v := ?v15) rfl (by kernel_rfl) (by kernel_rfl) (by kernel_rfl) (fun _ _ _ h => h) (.inl ⟨by kernel_rfl, ?y15⟩) HS0.out ?_
      case y15 =>
        rintro w' ⟨s0, s2, s4⟩
        go_simp
        first | done | with_reducible rfl | rfl
      try simp only [Act.put]
      refine wpAnyH_take (i := 17) (v := ?v16) rfl (by kernel_rfl) (by kernel_rfl) (by kernel_rfl) (fun _ _ _ h => h) (.inl ⟨by kernel_rfl, ?y16⟩) HS0.out ?_
      case y16 =>
        rintro w' ⟨s0, s2, s4⟩
        go_simp
        try simp only [hsl]
        first | done | with_reducible rfl | rfl
      try simp only [Act.put]
      refine held_one (i := 18) (by kernel_rfl) rfl (by kernel_rfl) ?_
      unfold Oper.wp
      go_simp
      refine ((CC.out 0)).mono ?_
      rintro e w5 hm5
      have HF5 := Lib.hid (HF.out 0 _ _ hm5)
      have HS5 : Hid (OfS A' N C W F L G w5) := by obtain ⟨v5, _, _, hb5⟩ := hm5; exact HS0.out.below hb5
      obtain ⟨v5, rfl, _, _⟩ := hm5
      clear CC HF HS0
      refine ⟨HS5.out, ?_⟩
      try simp only [Act.put]
      refine wpAnyH_take (i := 19) (v := ?v17) rfl (by kernel_rfl) (by kernel_rfl) (by kernel_rfl) (fun _ _ _ h => h) (.inl ⟨by kernel_rfl, ?y17⟩) HS5.out ?_
      case y17 =>
        rintro w' ⟨s0, s2, s4⟩
        go_simp
        first | done | with_reducible rfl | rfl
      try simp only [Act.put]
      refine held_done (by kernel_rfl) ?_
      go_simp
      go_wp2_with fail
      go_ret
      exact HF5.out

end Go.Proofs.Ytgbcdeahiemhoaa

namespace Go.Proofs.Ytgbcdeahiemhoaa
open Go.RowKit

theorem Kp.cell {S : Nat → Prop} {w w' : World} (h : Kp S w w') {a : Addr} {v : Value} (hc : w.cell? a = some v) (hS : ¬ S a.block) : w'.cell? a = some v :=
  (World.cell?_of_block (w := w) (h.block a.block (World.block_lt_of_cell? _ _ hc) hS)).trans hc

/-- Block R has the bits b in N words, bit 0 for diagonal -P. -/
def BitR (R N : Nat) (P : Int) (b : Int → Bool) (w : World) : Prop :=
  ∃ u : Nat → Nat, w.rowIs R 53 N (fun t => .int .u64 (u t : Nat)) ∧ (∀ t, u t < 18446744073709551616) ∧ ∀ s, s < 64 * N → (u (s / 64)).testBit (s % 64) = b ((s : Int) - P)
section
variable {R N : Nat} {P : Int} {b b' : Int → Bool} {w w' : World} {S : Nat → Prop}
theorem BitR.kept (h : BitR R N P b w) (hk : Kp S w w') (hR : ¬ S R) : BitR R N P b w' := by
  obtain ⟨u, h1, h2, h3⟩ := h
  exact ⟨u, hk.rowIs h1 hR, h2, h3⟩
theorem BitR.lt (h : BitR R N P b w) : R < w.heap.size := by
  obtain ⟨u, h1, _⟩ := h
  exact World.rowIs.lt h1
theorem BitR.congr (h : BitR R N P b w) (e : ∀ κ, b κ = b' κ) : BitR R N P b' w := by
  obtain ⟨u, h1, h2, h3⟩ := h
  exact ⟨u, h1, h2, fun s hs => by rw [h3 s hs, e]⟩
theorem BitR.new (w : World) (N : Nat) (P : Int) : BitR w.heap.size N P (fun _ => false) (w.alloc (.cells (madeCells #[.int .u64 0] N) 53)) :=
  ⟨fun _ => 0, World.rowIs_made w _ N _, fun _ => (by decide : 0 < 18446744073709551616), fun s _ => by simp⟩
/-- One bit more. -/
theorem bit_set {u : Nat → Nat} {q r : Nat} (hr : w.rowIs R 53 N (fun t => .int .u64 (u t : Nat))) (hu : ∀ t, u t < 18446744073709551616) (hb : ∀ s, s < 64 * N → (u (s / 64)).testBit (s % 64) = b ((s : Int) - P)) (h64 : r < 64) {k : Int} (hk : k + P = ((64 * q + r : Nat) : Int)) :
    BitR R N P (fun κ => if κ = k then true else b κ) (w.setCell ⟨R, q, none⟩ (.int .u64 ((u q ||| 2 ^ r : Nat) : Int))) := by
  refine ⟨fun t => if t = q then u q ||| 2 ^ r else u t, (World.rowIs.set hr q _).congr fun t _ => ?_, fun t => ?_, fun s hs => ?_⟩
  · by_cases e : t = q
    · simp only [if_pos e]
    · simp only [if_neg e]
  · by_cases e : t = q
    · simp only [if_pos e]
      exact Nat.or_lt_two_pow (n := 64) (hu q) (Nat.pow_lt_pow_right (by decide) h64)
    · simp only [if_neg e]
      exact hu t
  · by_cases e : s / 64 = q
    · simp only [if_pos e]
      rw [Nat.testBit_or, ← e, hb s hs, Nat.testBit_two_pow]
      by_cases e2 : r = s % 64
      · rw [if_pos (by omega)]
        simp [e2]
      · rw [if_neg (by omega)]
        simp [e2]
    · simp only [if_neg e]
      rw [hb s hs, if_neg (by omega)]
end

/-- What Run's function keeps. -/
structure RnS (zr zf R F N P : Nat) (b : Int → Bool) (w : World) : Prop where
  boxr : w.cell? ⟨zr, 0, none⟩ = some (.slice (some ⟨R, 0, none⟩) N N)
  boxf : w.cell? ⟨zf, 0, none⟩ = some (.pointer (some ⟨F, 0, none⟩))
  bits : BitR R N (P : Int) b w
  ne1 : zr ≠ R
  ne2 : zf ≠ R

set_option maxRecDepth 100000 in
set_option maxHeartbeats 800000 in
theorem run1_any (zr zf R F N P W : Nat) (k : Int) (v : Bool) (b : Int → Bool) (w : World) (hN : (W + 2 * P + 1) / 64 + 1 = N) (hW : W ≤ 1048576) (hP : P ≤ 1048576) (hk1 : -(P : Int) ≤ k) (hk2 : k ≤ (W : Int) + P) (h : RnS zr zf R F N P b w) (hbk : b k = false) (h3 : w.cell? ⟨F, 3, none⟩ = some (.int .i64 (P : Int))) :
    Calls Try.prog 31 #[.int .i64 k, .bool v, .pointer (some ⟨zr, 0, none⟩), .pointer (some ⟨zf, 0, none⟩)] w fun e w' => (∃ r, e = .returned r) ∧ RnS zr zf R F N P (fun κ => if κ = k then v else b κ) w' ∧ Kp (fun k => k = R) w w' := by
  cases v with
  | false =>
    have HF : Hid (RnS zr zf R F N P (fun κ => if κ = k then false else b κ) w) := ⟨h.boxr, h.boxf, h.bits.congr fun κ => by split <;> (first | (rename_i e; rw [e, hbk]) | rfl), h.ne1, h.ne2⟩
    clear h h3
    go_enter Try.func31, Try.ntmps31
    go_wp2_with fail
    go_end0
    exact ⟨⟨_, rfl⟩, HF.out, Kp.refl _ _⟩
  | true =>
    obtain ⟨s, hs⟩ : ∃ s : Nat, k + (P : Int) = (s : Int) := ⟨(k + P).toNat, by omega⟩
    obtain ⟨q, hq⟩ : ∃ q, s / 64 = q := ⟨_, rfl⟩
    obtain ⟨r, hr⟩ : ∃ r, s % 64 = r := ⟨_, rfl⟩
    have h64 : r < 64 := by omega
    have hqN : q < N := by omega
    have hq2 : q ≤ 1048576 := by omega
    obtain ⟨u, u1, u2, u3⟩ := h.bits
    have HF : Hid (∀ z : Int, z = ((u q ||| 2 ^ r : Nat) : Int) → RnS zr zf R F N P (fun κ => if κ = k then true else b κ) (w.setCell ⟨R, q, none⟩ (.int .u64 z)).drew ∧ Kp (fun k => k = R) w (w.setCell ⟨R, q, none⟩ (.int .u64 z)).drew) := fun z e => by
      subst e
      have hkp : Kp (fun k => k = R) w (w.setCell ⟨R, q, none⟩ (.int .u64 ((u q ||| 2 ^ r : Nat) : Int))).drew := ((Kp.refl (fun k => k = R) w).setCell (a := ⟨R, q, none⟩) rfl _).drewN 1
      exact ⟨⟨hkp.cell h.boxr h.ne1, hkp.cell h.boxf h.ne2, bit_set u1 u2 u3 h64 (by omega), h.ne1, h.ne2⟩, hkp⟩
    have b1 := h.boxr
    have b2 := h.boxf
    have c1 := World.rowIs.cell u1 hqN
    have c2 := World.rowIs.frozen u1 q
    have HO := Lib.hid (or_bit (u q) r (u2 q) h64)
    have z1 : (s : Int) / 64 = (q : Int) := by omega
    have z2 : (s : Int) % 64 = (r : Int) := by omega
    have z3 : (s : Int).tdiv 64 = (q : Int) := by rw [Int.tdiv_eq_ediv_of_nonneg (by omega)]; exact z1
    have z4 : (s : Int).tmod 64 = (r : Int) := by rw [Int.tmod_eq_emod_of_nonneg (by omega)]; exact z2
    have hs2 : s ≤ 4194304 := by omega
    clear h u1 u2 u3 hq hr hN
    generalize u q = U at *
    go_enter Try.func31, Try.ntmps31
    go_wp2_with fail
    go_region
    go_wp2_with fail
    go_end0
    exact ⟨⟨_, rfl⟩, HF.out _ HO.out⟩

/-- Row q of the ways in block R. -/
def WayR (x y : List Int) (W q R : Nat) (w : World) : Prop := BitR R ((W + 2 * q + 1) / 64 + 1) (q : Int) (fun κ => decide (-(q : Int) ≤ κ ∧ κ ≤ (W : Int) + q) && acB x y W q κ) w

set_option maxRecDepth 100000 in
set_option maxHeartbeats 800000 in
theorem across_any (x y : List Int) (g o L c W q R : Nat) (k : Int) (w : World) (hq : q < L) (hW : W ≤ 1048576) (hq2 : q ≤ 1048576) (hk1 : -(q : Int) ≤ k) (hk2 : k ≤ (W : Int) + q)
    (hc : w.cell? ⟨g, o + q, none⟩ = some (.slice (some ⟨R, 0, none⟩) ((W + 2 * q + 1) / 64 + 1) ((W + 2 * q + 1) / 64 + 1))) (h : WayR x y W q R w) :
    Calls Try.prog 39 #[.slice (some ⟨g, o, none⟩) L c, .int .i64 (q : Int), .int .i64 k] w fun e w' => e = .returned (.bool (acB x y W q k)) ∧ w' = w := by
  obtain ⟨s, hs⟩ : ∃ s : Nat, k + (q : Int) = (s : Int) := ⟨(k + q).toNat, by omega⟩
  obtain ⟨N, hN⟩ : ∃ N, (W + 2 * q + 1) / 64 + 1 = N := ⟨_, rfl⟩
  unfold WayR at h
  rw [hN] at h hc
  obtain ⟨i, hi⟩ : ∃ i, s / 64 = i := ⟨_, rfl⟩
  obtain ⟨r, hr⟩ : ∃ r, s % 64 = r := ⟨_, rfl⟩
  have h64 : r < 64 := by omega
  have hiN : i < N := by omega
  have hNb : N ≤ 1048576 := by omega
  obtain ⟨u, u1, u2, u3⟩ := h
  have hb := u3 s (by omega)
  rw [hi, hr, show (s : Int) - (q : Int) = k by omega] at hb
  replace hb : (u i).testBit r = (decide (-(q : Int) ≤ k ∧ k ≤ (W : Int) + q) && acB x y W q k) := hb
  rw [decide_eq_true (by omega), Bool.true_and] at hb
  have c1 := World.rowIs.cell u1 hiN
  have HT := bit_test (u i) r (u2 i)
  rw [hb] at HT
  have z1 : (s : Int) / 64 = (i : Int) := by omega
  have z2 : (s : Int) % 64 = (r : Int) := by omega
  have z3 : (s : Int).tdiv 64 = (i : Int) := by rw [Int.tdiv_eq_ediv_of_nonneg (by omega)]; exact z1
  have z4 : (s : Int).tmod 64 = (r : Int) := by rw [Int.tmod_eq_emod_of_nonneg (by omega)]; exact z2
  have hs2 : s ≤ 4194304 := by omega
  clear u1 u2 u3 hb hi hr hN
  generalize u i = U at *
  generalize acB x y W q k = bb at *
  go_enter Try.func39, Try.ntmps39
  go_wp2_with fail
  go_ret
  exact ⟨rfl, rfl⟩

end Go.Proofs.Ytgbcdeahiemhoaa
