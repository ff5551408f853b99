/-
  Words and contracts that the proof leans on.
-/
import Derived.Test.YthpinbmimgojnaaM17
import Derived.Test.YthpinbmimgojnaaM19
import Derived.Test.YthpinbmimgojnaaM5
import Derived.OrdersHeld
namespace Go.Proofs.Ythpinbmimgojnaa
open Go.RowKit

/-- The costs while the first row is laid. -/
def nsG (X L j t : Nat) : Int := if L + 1 ≤ t ∧ t < L + 1 + j then ((t - (L + 1) : Nat) : Int) else (X : Int)
theorem nsG_next (X L j t : Nat) : nsG X L (j + 1) t = if t = j + L + 1 then (j : Int) else nsG X L j t := by
  unfold nsG
  by_cases e : t = j + L + 1
  · rw [if_pos e, if_pos (by omega), show t - (L + 1) = j by omega]
  · rw [if_neg e]
    by_cases c : L + 1 ≤ t ∧ t < L + 1 + j
    · rw [if_pos c, if_pos (by omega)]
    · rw [if_neg c, if_neg (by omega)]
/-- What newStrip leaves. -/
def NsMade (A B : Option Addr) (n m c d k : Nat) (x y : List Int) (w : World) (e : Ending) (w' : World) : Prop :=
  ∃ F G g, e = .returned (.pointer (some ⟨F, 0, none⟩)) ∧ SrO A B n m c d (sdL n m k) (sdH n m k) F G 0 g w' ∧ RwI x y k (sdL n m k) (sdH n m k) 0 g ∧ w.heap.size ≤ F ∧ w.heap.size ≤ G ∧ Below w.heap.size w w'
/-- What the loads read. -/
def NsS (L H F : Nat) (w : World) : Prop := w.cell? ⟨F, 2, none⟩ = some (.int .i64 (-(L : Int))) ∧ w.cell? ⟨F, 3, none⟩ = some (.int .i64 (H : Int))
theorem NsS.keep {L H F : Nat} {w w' : World} (h : NsS L H F w) (hb : Below w.heap.size w w') : NsS L H F w' :=
  ⟨(hb.cell (p := ⟨F, 2, none⟩) (World.block_lt_of_cell? _ _ h.1)).trans h.1, (hb.cell (p := ⟨F, 3, none⟩) (World.block_lt_of_cell? _ _ h.2)).trans h.2⟩
def NtS (F G N : Nat) (w : World) : Prop := w.cell? ⟨F, 5, none⟩ = some (.slice (some ⟨G, 0, none⟩) N N) ∧ True
theorem sr_new (A B : Option Addr) (n m c d : Nat) (lo hi : Int) (w : World) : (w.alloc (.cells #[.slice A n c, .slice B m d, .int .i64 lo, .int .i64 hi, .int .i64 0, .slice none 0 0] 54)).rowIs w.heap.size 54 6 (cv6 (.slice A n c) (.slice B m d) (.int .i64 lo) (.int .i64 hi) (.int .i64 0) (.slice none 0 0)) :=
  World.rowIs_alloc w _ _ _ (cv6_cases rfl rfl rfl rfl rfl rfl)
theorem sr_cost {A B : Option Addr} {n m c d L H F G N X : Nat} {w : World} (h : w.rowIs F 54 6 (cv6 (.slice A n c) (.slice B m d) (.int .i64 (-(L : Int))) (.int .i64 (H : Int)) (.int .i64 0) (.slice none 0 0))) (hN : L + H + 3 = N) (hr : w.rowIs G 3 N (fun _ => .int .i64 (X : Int))) :
    SrO A B n m c d L H F G 0 (nsG X L 0) (w.setCell ⟨F, 5, none⟩ (.slice (some ⟨G, 0, none⟩) N N)) := by
  subst hN
  refine ⟨(h.set 5 _).congr ?_, (hr.setOther (Ne.symm (rowIs_ne h hr (by decide))) _).congr fun t _ => ?_⟩
  · intro i hi
    revert i
    exact cv6_cases rfl rfl rfl rfl rfl rfl
  · unfold nsG
    rw [if_neg (by omega)]
/-- The head of a round. -/
def NsRel (A B : Option Addr) (n m c d L H F G X : Nat) (w0 : World) (j : Value) (wr : World) : Prop :=
  ∃ a : Nat, a ≤ H + 1 ∧ j = .int .i64 (a : Int) ∧ SrO A B n m c d L H F G 0 (nsG X L a) wr ∧ Below w0.heap.size w0 wr

set_option maxRecDepth 100000 in
set_option maxHeartbeats 1600000 in
theorem newStrip_any (A B : Option Addr) (n m c d k : Nat) (x y : List Int) (w : World) (hx : x.length = n) (hy : y.length = m) (hn : n ≤ 1048576) (hm : m ≤ 1048576) (hk : apN n m ≤ k) (hk2 : k ≤ 9223372036854775807) :
    Calls Try.prog 20 #[.slice A n c, .slice B m d, .int .i64 (k : Int)] w (NsMade A B n m c d k x y w) := by
  have hmx : Try.prog.follows .mixedOrders = true := by kernel_rfl
  have CA := Lib.hid (fun w => baside_any n m k w hn hm hk hk2)
  obtain ⟨s1, s2, s3, s4⟩ := sd_le n m k
  have HD : Hid (∀ F G g w', (∀ t, t < sdL n m k + sdH n m k + 3 → g t = nsG (n + m + 1) (sdL n m k) (sdH n m k + 1) t) → SrO A B n m c d (sdL n m k) (sdH n m k) F G 0 g w' → w.heap.size ≤ F → w.heap.size ≤ G → Below w.heap.size w w' → NsMade A B n m c d k x y w (.returned (.pointer (some ⟨F, 0, none⟩))) w') := fun F G g w' q1 q2 q3 q4 q5 =>
    ⟨F, G, g, rfl, q2, rw_start (by omega) (fun t ht => by
      rw [q1 t ht, hx, hy]
      unfold nsG
      by_cases c : sdL n m k + 1 ≤ t ∧ t ≤ sdL n m k + sdH n m k + 1
      · rw [if_pos c, if_pos (by omega)]
      · rw [if_neg c, if_neg (by omega)]), q3, q4, q5⟩
  have hq : sdQ n m k ≤ 1048576 := by unfold sdQ; omega
  have hcs : (m < n ∧ (m : Int) - n - ((sdQ n m k : Nat) : Int) = -((sdL n m k : Nat) : Int) ∧ sdH n m k = sdQ n m k) ∨ ((m ≤ n ∧ n ≤ m) ∧ (m : Int) - n - ((sdQ n m k : Nat) : Int) = -((sdL n m k : Nat) : Int) ∧ (m : Int) - n + ((sdQ n m k : Nat) : Int) = ((sdH n m k : Nat) : Int)) ∨ (n < m ∧ sdL n m k = sdQ n m k ∧ (m : Int) - n + ((sdQ n m k : Nat) : Int) = ((sdH n m k : Nat) : Int)) := by
    unfold sdL sdH
    omega
  generalize sdL n m k = L at *
  generalize sdH n m k = H at *
  generalize sdQ n m k = Q at *
  obtain ⟨N, hN⟩ : ∃ N, L + H + 3 = N := ⟨_, rfl⟩
  obtain ⟨X, hX⟩ : ∃ X, n + m + 1 = X := ⟨_, rfl⟩
  rw [hX] at HD
  have HN := Lib.hid hN
  have hNb : N ≤ 2097155 := by omega
  have hXb : X ≤ 2097153 := by omega
  have f1 : IntKind.i64.wrap ((n : Int) + (m : Int)) = (n : Int) + m := IntWalk.i64_in _ (by omega)
  have f2 : IntKind.i64.wrap ((n : Int) + (m : Int) + 1) = (X : Int) := (IntWalk.i64_in _ (by omega)).trans (by omega)
  have f3 : IntKind.i64.wrap ((H : Int) - -(L : Int)) = (H : Int) + L := (IntWalk.i64_in _ (by omega)).trans (by omega)
  have f4 : IntKind.i64.wrap ((H : Int) + (L : Int)) = (H : Int) + L := IntWalk.i64_in _ (by omega)
  have f5 : IntKind.i64.wrap ((H : Int) + (L : Int) + 3) = (N : Int) := (IntWalk.i64_in _ (by omega)).trans (by omega)
  have hLb : L ≤ 1048576 := by omega
  have hHb : H ≤ 1048576 := by omega
  clear s1 s2 s3 s4 hN hX hk hk2 hx hy
  rcases hcs with ⟨hlt, e1, rfl⟩ | ⟨⟨hlt, hlt2⟩, e1, e2⟩ | ⟨hlt, rfl, e1⟩

  · go_enter Try.func20, Try.ntmps20
    go_wp2_with fail
    refine (CA.out _).mono ?_
    rintro e w1 ⟨rfl, rfl⟩
    clear CA
    go_wp2_with fail
    have HO := sr_new A B n m c d (-(L : Int)) (H : Int) w1
    have hb0 : Below w1.heap.size w1 (w1.alloc (.cells #[.slice A n c, .slice B m d, .int .i64 (-(L : Int)), .int .i64 (H : Int), .int .i64 0, .slice none 0 0] 54)) := (Below.refl _ _).alloc (Nat.le_refl _) _
    generalize w1.alloc (.cells #[.slice A n c, .slice B m d, .int .i64 (-(L : Int)), .int .i64 (H : Int), .int .i64 0, .slice none 0 0] 54) = wA at *
    obtain ⟨F, hF⟩ : ∃ F, w1.heap.size = F := ⟨_, rfl⟩
    have HF0 : Hid (w1.heap.size = F) := hF
    rw [hF] at HO hb0 ⊢
    clear hF
    have hFA : F < wA.heap.size := HO.lt
    have HS0 : Hid (NsS L H F wA.drew) := ⟨World.rowIs.cell HO (by omega), World.rowIs.cell HO (by omega)⟩
    obtain ⟨B1, hB1⟩ : ∃ z, wA.drew.alloc (.cells #[.int .i64 (X : Int)] 3) = z := ⟨_, rfl⟩
    have hb1 : Below wA.heap.size wA B1 := by
      rw [← hB1]
      exact ((Below.refl _ _).drew).alloc (Nat.le_refl _) _
    have hx1 : B1.cell? ⟨wA.heap.size, 0, none⟩ = some (.int .i64 (X : Int)) := by
      have := cell_one_new wA.drew (.int .i64 (X : Int)) 3 0 _ rfl
      rw [Addr.add_lit, hB1] at this
      exact this
    have CR := Lib.hid (repeat_any wA.heap.size 1 N (X : Int) B1 hx1 (by have := HN.out; omega) (by omega))
    have HS1 : Hid (NsS L H F B1) := NsS.keep (w := wA) HS0.out hb1
    have HO1 := (Kp.of_below (fun _ => False) hb1).rowIs HO id
    have HbB : Hid (Below F w1 B1) := hb0.trans (hb1.mono (by omega))
    clear hx1 hb1 HO hb0
    refine wp_region_held (S := NsS L H F) hmx ?_
    refine wpAnyH_take (i := 0) (v := ?v1) rfl (by kernel_rfl) (by kernel_rfl) (by kernel_rfl) (fun _ _ _ h => h) (.inl ⟨by kernel_rfl, ?y1⟩) HS0.out ?_
    case y1 =>
      rintro w' ⟨s2, s3⟩
      go_simp
      try simp only [f1, f2]
      first | done | with_reducible rfl | rfl
    try simp only [Act.put]
    refine wpAnyH_take (i := 1) (v := ?v2) rfl (by kernel_rfl) (by kernel_rfl) (by kernel_rfl) (fun _ _ _ h => h) (.inl ⟨by kernel_rfl, ?y2⟩) HS0.out ?_
    case y2 =>
      rintro w' ⟨s2, s3⟩
      go_simp
      try simp only [f1, f2]
      first | done | with_reducible rfl | rfl
    try simp only [Act.put]
    refine wpAnyH_take (i := 2) (v := ?v3) rfl (by kernel_rfl) (by kernel_rfl) (by kernel_rfl) (fun _ _ _ h => h) (.inl ⟨by kernel_rfl, ?y3⟩) HS0.out ?_
    case y3 =>
      rintro w' ⟨s2, s3⟩
      go_simp
      try simp only [f1, f2]
      first | done | with_reducible rfl | rfl
    try simp only [Act.put]
    refine wpAnyH_take (i := 3) (v := ?v4) rfl (by kernel_rfl) (by kernel_rfl) (by kernel_rfl) (fun _ _ _ h => h) (.inl ⟨by kernel_rfl, ?y4⟩) HS0.out ?_
    case y4 =>
      rintro w' ⟨s2, s3⟩
      go_simp
      try simp only [f1, f2]
      first | done | with_reducible rfl | rfl
    try simp only [Act.put]
    refine wpAnyH_take (i := 4) (v := ?v5) rfl (by kernel_rfl) (by kernel_rfl) (by kernel_rfl) (fun _ _ _ h => h) (.inl ⟨by kernel_rfl, ?y5⟩) HS0.out ?_
    case y5 =>
      rintro w' ⟨s2, s3⟩
      go_simp
      try simp only [f1, f2]
      first | done | with_reducible rfl | rfl
    try simp only [Act.put]
    refine wpAnyH_take (i := 6) (v := ?v6) rfl (by kernel_rfl) (by kernel_rfl) (by kernel_rfl) (fun _ _ _ h => h) (.inl ⟨by kernel_rfl, ?y6⟩) HS0.out ?_
    case y6 =>
      rintro w' ⟨s2, s3⟩
      go_simp
      try simp only [f3, f4, f5]
      first | done | with_reducible rfl | rfl
    try simp only [Act.put]
    refine wpAnyH_take (i := 7) (v := ?v7) rfl (by kernel_rfl) (by kernel_rfl) (by kernel_rfl) (fun _ _ _ h => h) (.inl ⟨by kernel_rfl, ?y7⟩) HS0.out ?_
    case y7 =>
      rintro w' ⟨s2, s3⟩
      go_simp
      try simp only [f3, f4, f5]
      first | done | with_reducible rfl | rfl
    try simp only [Act.put]
    refine wpAnyH_take (i := 8) (v := ?v8) rfl (by kernel_rfl) (by kernel_rfl) (by kernel_rfl) (fun _ _ _ h => h) (.inl ⟨by kernel_rfl, ?y8⟩) HS0.out ?_
    case y8 =>
      rintro w' ⟨s2, s3⟩
      go_simp
      try simp only [f3, f4, f5]
      first | done | with_reducible rfl | rfl
    try simp only [Act.put]
    refine wpAnyH_take (i := 9) (v := ?v9) rfl (by kernel_rfl) (by kernel_rfl) (by kernel_rfl) (fun _ _ _ h => h) (.inl ⟨by kernel_rfl, ?y9⟩) HS0.out ?_
    case y9 =>
      rintro w' ⟨s2, s3⟩
      go_simp
      try simp only [f3, f4, f5]
      first | done | with_reducible rfl | rfl
    try simp only [Act.put]
    refine wpAnyH_take (i := 10) (v := ?v10) rfl (by kernel_rfl) (by kernel_rfl) (by kernel_rfl) (fun _ _ _ h => h) (.inl ⟨by kernel_rfl, ?y10⟩) HS0.out ?_
    case y10 =>
      rintro w' ⟨s2, s3⟩
      go_simp
      try simp only [f3, f4, f5]
      first | done | with_reducible rfl | rfl
    try simp only [Act.put]
    refine wpAnyH_take (i := 11) (v := ?v11) rfl (by kernel_rfl) (by kernel_rfl) (by kernel_rfl) (fun _ _ _ h => h) (.inl ⟨by kernel_rfl, ?y11⟩) HS0.out ?_
    case y11 =>
      rintro w' ⟨s2, s3⟩
      go_simp
      try simp only [f3, f4, f5]
      first | done | with_reducible rfl | rfl
    try simp only [Act.put]
    refine wpAnyH_take (i := 12) (v := ?v12) rfl (by kernel_rfl) (by kernel_rfl) (by kernel_rfl) (fun _ _ _ h => h) (.inl ⟨by kernel_rfl, ?y12⟩) HS0.out ?_
    case y12 =>
      rintro w' ⟨s2, s3⟩
      go_simp
      try simp only [f3, f4, f5]
      first | done | with_reducible rfl | rfl
    try simp only [Act.put]
    refine wpAnyH_take (i := 13) (v := ?v13) rfl (by kernel_rfl) (by kernel_rfl) (by kernel_rfl) (fun _ _ _ h => h) (.inl ⟨by kernel_rfl, ?y13⟩) HS0.out ?_
    case y13 =>
      rintro w' ⟨s2, s3⟩
      go_simp
      try simp only [f3, f4, f5]
      first | done | with_reducible rfl | rfl
    try simp only [Act.put]
    refine wpAnyH_take (i := 14) (v := ?v14) rfl (by kernel_rfl) (by kernel_rfl) (by kernel_rfl) (fun _ _ _ h => h) (.inl ⟨by kernel_rfl, ?y14⟩) HS0.out ?_
    case y14 =>
      rintro w' ⟨s2, s3⟩
      go_simp
      try simp only [f3, f4, f5]
      first | done | with_reducible rfl | rfl
    try simp only [Act.put]
    refine wpAnyH_take (i := 15) (v := ?v15) rfl (by kernel_rfl) (by kernel_rfl) (by kernel_rfl) (fun _ _ _ h => h) (.inl ⟨by kernel_rfl, ?y15⟩) HS0.out ?_
    case y15 =>
      rintro w' ⟨s2, s3⟩
      go_simp
      try simp only [f3, f4, f5]
      first | done | with_reducible rfl | rfl
    try simp only [Act.put]
    refine held_one (i := 5) (by kernel_rfl) rfl (by rfl) ?_
    unfold Oper.wp
    go_simp
    refine ⟨HS1.out, ?_⟩
    try simp only [Act.put]
    refine held_one (i := 16) (by kernel_rfl) rfl (by kernel_rfl) ?_
    unfold Oper.wp
    go_simp
    refine (CR.out).mono ?_
    rintro e w2 ⟨rfl, hr, hb2⟩
    have HS2 : Hid (NsS L H F w2) := NsS.keep HS1.out hb2
    have HO2 := (Kp.of_below (fun _ => False) hb2).rowIs HO1 id
    have HbW : Hid (Below F w1 w2) := HbB.out.trans (hb2.mono (by rw [← HF0.out]; exact HbB.out.size))
    have hGF : F ≤ B1.heap.size := by rw [← HF0.out]; exact HbB.out.size
    clear CR HS0 HS1 HO1 hb2
    generalize B1.heap.size = G at *
    clear hB1
    refine ⟨HS2.out, ?_⟩
    try simp only [Act.put]
    refine wpAnyH_take (i := 17) (v := ?v16) rfl (by kernel_rfl) (by kernel_rfl) (by kernel_rfl) (fun _ _ _ h => h) (.inl ⟨by kernel_rfl, ?y16⟩) HS2.out ?_
    case y16 =>
      rintro w' ⟨s2, s3⟩
      go_simp
      first | done | with_reducible rfl | rfl
    try simp only [Act.put]
    refine wpAnyH_take (i := 18) (v := ?v17) rfl (by kernel_rfl) (by kernel_rfl) (by kernel_rfl) (fun _ _ _ h => h) (.inl ⟨by kernel_rfl, ?y17⟩) HS2.out ?_
    case y17 =>
      rintro w' ⟨s2, s3⟩
      go_simp
      first | done | with_reducible rfl | rfl
    try simp only [Act.put]
    have z1 := World.rowIs.cell HO2 (show 5 < 6 by omega)
    have z2 := World.rowIs.frozen HO2 5
    have HC := sr_cost (X := X) HO2 HN.out hr
    have HS3 : Hid (NsS L H F (w2.setCell ⟨F, 5, none⟩ (.slice (some ⟨G, 0, none⟩) N N))) := ⟨HC.c2, HC.c3⟩
    have HI : Hid (NsRel A B n m c d L H F G X w1 (.int .i64 0) (w2.setCell ⟨F, 5, none⟩ (.slice (some ⟨G, 0, none⟩) N N))) := ⟨0, Nat.zero_le _, rfl, HC, by rw [HF0.out]; exact HbW.out.setCell (Nat.le_refl _) _⟩
    replace z1 : w2.cell? ⟨F, 5, none⟩ = some (.slice none 0 0) := z1
    refine held_one (i := 19) (by kernel_rfl) rfl (by rfl) ?_
    unfold Oper.wp
    go_simp
    refine ⟨HS3.out, ?_⟩
    refine held_done (by kernel_rfl) ?_
    have s3 := HS3.out.2
    clear HC HS2 HS3 HO2 hr HbB HbW z1 z2
    generalize w2.setCell ⟨F, 5, none⟩ (.slice (some ⟨G, 0, none⟩) N N) = w3 at *
    go_wp2_with fail
    go_loopw [60] (fun j wr => NsRel A B n m c d L H F G X w1 j wr) (fun j _ => H + 1 - (intOf j).toNat)
    case atStart => exact HI.out
    case round =>
      clear HI s3
      obtain ⟨a, ha, rfl, hs, hbw⟩ := hrel
      by_cases hlt : a ≤ H
      · obtain ⟨t, ht⟩ : ∃ t, a + L + 1 = t := ⟨_, rfl⟩
        have CP := Lib.hid (bplace_any (hs.drewN 1) (a : Int) t (by omega) (by omega) hLb (by omega))
        have htN : t < N := by have := HN.out; omega
        have hix : 0 ≤ (t : Int) ∧ (t : Int) < (N : Int) := by omega
        have c5 := hs.c5
        rw [HN.out] at c5
        have HT0 : Hid (NtS F G N wr.drew) := ⟨c5, trivial⟩
        have HT1 : Hid (∀ q, NtS F G N ((wr.drewN 1).drewN q)) := fun _ => ⟨c5, trivial⟩
        have HZ : Hid (∀ q, ((wr.drewN 1).drewN q).cell? ⟨G, t, none⟩ = some (.int .i64 (nsG X L a t)) ∧ ((wr.drewN 1).drewN q).frozen? ⟨G, t, none⟩ = false) := fun q => ⟨hs.at (t := t) (by have := HN.out; omega), hs.far.frozen t⟩
        have HR : Hid (∀ q, NsRel A B n m c d L H F G X w1 (.int .i64 ((a + 1 : Nat) : Int)) (((wr.drewN 1).drewN q).setCell ⟨G, t, none⟩ (.int .i64 (a : Int)))) := fun q =>
          ⟨a + 1, by omega, rfl, (((hs.drewN 1).drewN q).put t (a : Int)).congr (g' := nsG X L (a + 1)) fun s _ => by rw [nsG_next, ht], (below_drewN (below_drewN hbw 1) q).setCell (by rw [HF0.out]; exact hGF) _⟩
        have HP : Hid (∀ q, NtS F G N (((wr.drewN 1).drewN q).setCell ⟨G, t, none⟩ (.int .i64 (a : Int)))) := fun q => by
          have := (((hs.drewN 1).drewN q).put t (a : Int)).c5
          rw [HN.out] at this
          exact ⟨this, trivial⟩
        clear hs hbw c5 ht
        go_wp2_with fail
        refine wp_region_held (S := NtS F G N) hmx ?_
        refine wpAnyH_take (i := 0) (v := ?v18) rfl (by kernel_rfl) (by kernel_rfl) (by kernel_rfl) (fun _ _ _ h => h) (.inl ⟨by kernel_rfl, ?y18⟩) HT0.out ?_
        case y18 =>
          rintro w' ⟨s5, _⟩
          go_simp
          first | done | with_reducible rfl | rfl
        try simp only [Act.put]
        refine wpAnyH_take (i := 1) (v := ?v19) rfl (by kernel_rfl) (by kernel_rfl) (by kernel_rfl) (fun _ _ _ h => h) (.inl ⟨by kernel_rfl, ?y19⟩) HT0.out ?_
        case y19 =>
          rintro w' ⟨s5, _⟩
          go_simp
          first | done | with_reducible rfl | rfl
        try simp only [Act.put]
        refine wpAnyH_take (i := 2) (v := ?v20) rfl (by kernel_rfl) (by kernel_rfl) (by kernel_rfl) (fun _ _ _ h => h) (.inl ⟨by kernel_rfl, ?y20⟩) HT0.out ?_
        case y20 =>
          rintro w' ⟨s5, _⟩
          go_simp
          first | done | with_reducible rfl | rfl
        try simp only [Act.put]
        refine wpAnyH_take (i := 3) (v := ?v21) rfl (by kernel_rfl) (by kernel_rfl) (by kernel_rfl) (fun _ _ _ h => h) (.inl ⟨by kernel_rfl, ?y21⟩) HT0.out ?_
        case y21 =>
          rintro w' ⟨s5, _⟩
          go_simp
          first | done | with_reducible rfl | rfl
        try simp only [Act.put]
        refine wpAnyH_take (i := 4) (v := ?v22) rfl (by kernel_rfl) (by kernel_rfl) (by kernel_rfl) (fun _ _ _ h => h) (.inl ⟨by kernel_rfl, ?y22⟩) HT0.out ?_
        case y22 =>
          rintro w' ⟨s5, _⟩
          go_simp
          first | done | with_reducible rfl | rfl
        try simp only [Act.put]
        refine wpAnyH_take (i := 5) (v := ?v23) rfl (by kernel_rfl) (by kernel_rfl) (by kernel_rfl) (fun _ _ _ h => h) (.inl ⟨by kernel_rfl, ?y23⟩) HT0.out ?_
        case y23 =>
          rintro w' ⟨s5, _⟩
          go_simp
          first | done | with_reducible rfl | rfl
        try simp only [Act.put]
        refine wpAnyH_take (i := 7) (v := ?v24) rfl (by kernel_rfl) (by kernel_rfl) (by kernel_rfl) (fun _ _ _ h => h) (.inl ⟨by kernel_rfl, ?y24⟩) HT0.out ?_
        case y24 =>
          rintro w' ⟨s5, _⟩
          go_simp
          first | done | with_reducible rfl | rfl
        try simp only [Act.put]
        refine held_one (i := 6) (by kernel_rfl) rfl (by kernel_rfl) ?_
        unfold Oper.wp
        go_simp
        refine (CP.out).mono ?_
        rintro e w4 ⟨rfl, q, rfl⟩
        have HTq := Lib.hid (HT1.out q)
        obtain ⟨z1, z2⟩ := HZ.out q
        have HRq := Lib.hid (HR.out q)
        have HPq := Lib.hid (HP.out q)
        clear CP HT0 HT1 HZ HR HP
        generalize (wr.drewN 1).drewN q = wz at *
        refine ⟨HTq.out, ?_⟩
        try simp only [Act.put]
        refine wpAnyH_take (i := 8) (v := ?v25) rfl (by kernel_rfl) (by kernel_rfl) (by kernel_rfl) (fun _ _ _ h => h) (.inl ⟨by kernel_rfl, ?y25⟩) HTq.out ?_
        case y25 =>
          rintro w' ⟨s5, _⟩
          go_simp
          try simp only [if_pos hix]
          first | done | with_reducible rfl | rfl
        try simp only [Act.put]
        refine held_one (i := 9) (by kernel_rfl) rfl (by rfl) ?_
        unfold Oper.wp
        go_simp
        refine ⟨HPq.out, ?_⟩
        refine held_done (by kernel_rfl) ?_
        clear z1 z2 HPq HTq
        go_wp2_with fail
        go_roundw
        case rel => first | exact HRq.out | ((repeat apply Exists.intro); exact ⟨HRq.out, rfl⟩)
        case measure => simp [intOf]; omega
      · obtain rfl : a = H + 1 := by omega
        have HF := Lib.hid (HD.out F G (nsG X L (H + 1)) wr (fun _ _ => rfl) hs (by rw [HF0.out]; exact Nat.le_refl _) (by rw [HF0.out]; exact hGF) hbw)
        clear HD hs hbw
        go_wp2_with fail
        go_ret
        exact HF.out
  · go_enter Try.func20, Try.ntmps20
    go_wp2_with fail
    refine (CA.out _).mono ?_
    rintro e w1 ⟨rfl, rfl⟩
    clear CA
    go_wp2_with fail
    have HO := sr_new A B n m c d (-(L : Int)) (H : Int) w1
    have hb0 : Below w1.heap.size w1 (w1.alloc (.cells #[.slice A n c, .slice B m d, .int .i64 (-(L : Int)), .int .i64 (H : Int), .int .i64 0, .slice none 0 0] 54)) := (Below.refl _ _).alloc (Nat.le_refl _) _
    generalize w1.alloc (.cells #[.slice A n c, .slice B m d, .int .i64 (-(L : Int)), .int .i64 (H : Int), .int .i64 0, .slice none 0 0] 54) = wA at *
    obtain ⟨F, hF⟩ : ∃ F, w1.heap.size = F := ⟨_, rfl⟩
    have HF0 : Hid (w1.heap.size = F) := hF
    rw [hF] at HO hb0 ⊢
    clear hF
    have hFA : F < wA.heap.size := HO.lt
    have HS0 : Hid (NsS L H F wA.drew) := ⟨World.rowIs.cell HO (by omega), World.rowIs.cell HO (by omega)⟩
    obtain ⟨B1, hB1⟩ : ∃ z, wA.drew.alloc (.cells #[.int .i64 (X : Int)] 3) = z := ⟨_, rfl⟩
    have hb1 : Below wA.heap.size wA B1 := by
      rw [← hB1]
      exact ((Below.refl _ _).drew).alloc (Nat.le_refl _) _
    have hx1 : B1.cell? ⟨wA.heap.size, 0, none⟩ = some (.int .i64 (X : Int)) := by
      have := cell_one_new wA.drew (.int .i64 (X : Int)) 3 0 _ rfl
      rw [Addr.add_lit, hB1] at this
      exact this
    have CR := Lib.hid (repeat_any wA.heap.size 1 N (X : Int) B1 hx1 (by have := HN.out; omega) (by omega))
    have HS1 : Hid (NsS L H F B1) := NsS.keep (w := wA) HS0.out hb1
    have HO1 := (Kp.of_below (fun _ => False) hb1).rowIs HO id
    have HbB : Hid (Below F w1 B1) := hb0.trans (hb1.mono (by omega))
    clear hx1 hb1 HO hb0
    refine wp_region_held (S := NsS L H F) hmx ?_
    refine wpAnyH_take (i := 0) (v := ?v26) rfl (by kernel_rfl) (by kernel_rfl) (by kernel_rfl) (fun _ _ _ h => h) (.inl ⟨by kernel_rfl, ?y26⟩) HS0.out ?_
    case y26 =>
      rintro w' ⟨s2, s3⟩
      go_simp
      try simp only [f1, f2]
      first | done | with_reducible rfl | rfl
    try simp only [Act.put]
    refine wpAnyH_take (i := 1) (v := ?v27) rfl (by kernel_rfl) (by kernel_rfl) (by kernel_rfl) (fun _ _ _ h => h) (.inl ⟨by kernel_rfl, ?y27⟩) HS0.out ?_
    case y27 =>
      rintro w' ⟨s2, s3⟩
      go_simp
      try simp only [f1, f2]
      first | done | with_reducible rfl | rfl
    try simp only [Act.put]
    refine wpAnyH_take (i := 2) (v := ?v28) rfl (by kernel_rfl) (by kernel_rfl) (by kernel_rfl) (fun _ _ _ h => h) (.inl ⟨by kernel_rfl, ?y28⟩) HS0.out ?_
    case y28 =>
      rintro w' ⟨s2, s3⟩
      go_simp
      try simp only [f1, f2]
      first | done | with_reducible rfl | rfl
    try simp only [Act.put]
    refine wpAnyH_take (i := 3) (v := ?v29) rfl (by kernel_rfl) (by kernel_rfl) (by kernel_rfl) (fun _ _ _ h => h) (.inl ⟨by kernel_rfl, ?y29⟩) HS0.out ?_
    case y29 =>
      rintro w' ⟨s2, s3⟩
      go_simp
      try simp only [f1, f2]
      first | done | with_reducible rfl | rfl
    try simp only [Act.put]
    refine wpAnyH_take (i := 4) (v := ?v30) rfl (by kernel_rfl) (by kernel_rfl) (by kernel_rfl) (fun _ _ _ h => h) (.inl ⟨by kernel_rfl, ?y30⟩) HS0.out ?_
    case y30 =>
      rintro w' ⟨s2, s3⟩
      go_simp
      try simp only [f1, f2]
      first | done | with_reducible rfl | rfl
    try simp only [Act.put]
    refine wpAnyH_take (i := 6) (v := ?v31) rfl (by kernel_rfl) (by kernel_rfl) (by kernel_rfl) (fun _ _ _ h => h) (.inl ⟨by kernel_rfl, ?y31⟩) HS0.out ?_
    case y31 =>
      rintro w' ⟨s2, s3⟩
      go_simp
      try simp only [f3, f4, f5]
      first | done | with_reducible rfl | rfl
    try simp only [Act.put]
    refine wpAnyH_take (i := 7) (v := ?v32) rfl (by kernel_rfl) (by kernel_rfl) (by kernel_rfl) (fun _ _ _ h => h) (.inl ⟨by kernel_rfl, ?y32⟩) HS0.out ?_
    case y32 =>
      rintro w' ⟨s2, s3⟩
      go_simp
      try simp only [f3, f4, f5]
      first | done | with_reducible rfl | rfl
    try simp only [Act.put]
    refine wpAnyH_take (i := 8) (v := ?v33) rfl (by kernel_rfl) (by kernel_rfl) (by kernel_rfl) (fun _ _ _ h => h) (.inl ⟨by kernel_rfl, ?y33⟩) HS0.out ?_
    case y33 =>
      rintro w' ⟨s2, s3⟩
      go_simp
      try simp only [f3, f4, f5]
      first | done | with_reducible rfl | rfl
    try simp only [Act.put]
    refine wpAnyH_take (i := 9) (v := ?v34) rfl (by kernel_rfl) (by kernel_rfl) (by kernel_rfl) (fun _ _ _ h => h) (.inl ⟨by kernel_rfl, ?y34⟩) HS0.out ?_
    case y34 =>
      rintro w' ⟨s2, s3⟩
      go_simp
      try simp only [f3, f4, f5]
      first | done | with_reducible rfl | rfl
    try simp only [Act.put]
    refine wpAnyH_take (i := 10) (v := ?v35) rfl (by kernel_rfl) (by kernel_rfl) (by kernel_rfl) (fun _ _ _ h => h) (.inl ⟨by kernel_rfl, ?y35⟩) HS0.out ?_
    case y35 =>
      rintro w' ⟨s2, s3⟩
      go_simp
      try simp only [f3, f4, f5]
      first | done | with_reducible rfl | rfl
    try simp only [Act.put]
    refine wpAnyH_take (i := 11) (v := ?v36) rfl (by kernel_rfl) (by kernel_rfl) (by kernel_rfl) (fun _ _ _ h => h) (.inl ⟨by kernel_rfl, ?y36⟩) HS0.out ?_
    case y36 =>
      rintro w' ⟨s2, s3⟩
      go_simp
      try simp only [f3, f4, f5]
      first | done | with_reducible rfl | rfl
    try simp only [Act.put]
    refine wpAnyH_take (i := 12) (v := ?v37) rfl (by kernel_rfl) (by kernel_rfl) (by kernel_rfl) (fun _ _ _ h => h) (.inl ⟨by kernel_rfl, ?y37⟩) HS0.out ?_
    case y37 =>
      rintro w' ⟨s2, s3⟩
      go_simp
      try simp only [f3, f4, f5]
      first | done | with_reducible rfl | rfl
    try simp only [Act.put]
    refine wpAnyH_take (i := 13) (v := ?v38) rfl (by kernel_rfl) (by kernel_rfl) (by kernel_rfl) (fun _ _ _ h => h) (.inl ⟨by kernel_rfl, ?y38⟩) HS0.out ?_
    case y38 =>
      rintro w' ⟨s2, s3⟩
      go_simp
      try simp only [f3, f4, f5]
      first | done | with_reducible rfl | rfl
    try simp only [Act.put]
    refine wpAnyH_take (i := 14) (v := ?v39) rfl (by kernel_rfl) (by kernel_rfl) (by kernel_rfl) (fun _ _ _ h => h) (.inl ⟨by kernel_rfl, ?y39⟩) HS0.out ?_
    case y39 =>
      rintro w' ⟨s2, s3⟩
      go_simp
      try simp only [f3, f4, f5]
      first | done | with_reducible rfl | rfl
    try simp only [Act.put]
    refine wpAnyH_take (i := 15) (v := ?v40) rfl (by kernel_rfl) (by kernel_rfl) (by kernel_rfl) (fun _ _ _ h => h) (.inl ⟨by kernel_rfl, ?y40⟩) HS0.out ?_
    case y40 =>
      rintro w' ⟨s2, s3⟩
      go_simp
      try simp only [f3, f4, f5]
      first | done | with_reducible rfl | rfl
    try simp only [Act.put]
    refine held_one (i := 5) (by kernel_rfl) rfl (by rfl) ?_
    unfold Oper.wp
    go_simp
    refine ⟨HS1.out, ?_⟩
    try simp only [Act.put]
    refine held_one (i := 16) (by kernel_rfl) rfl (by kernel_rfl) ?_
    unfold Oper.wp
    go_simp
    refine (CR.out).mono ?_
    rintro e w2 ⟨rfl, hr, hb2⟩
    have HS2 : Hid (NsS L H F w2) := NsS.keep HS1.out hb2
    have HO2 := (Kp.of_below (fun _ => False) hb2).rowIs HO1 id
    have HbW : Hid (Below F w1 w2) := HbB.out.trans (hb2.mono (by rw [← HF0.out]; exact HbB.out.size))
    have hGF : F ≤ B1.heap.size := by rw [← HF0.out]; exact HbB.out.size
    clear CR HS0 HS1 HO1 hb2
    generalize B1.heap.size = G at *
    clear hB1
    refine ⟨HS2.out, ?_⟩
    try simp only [Act.put]
    refine wpAnyH_take (i := 17) (v := ?v41) rfl (by kernel_rfl) (by kernel_rfl) (by kernel_rfl) (fun _ _ _ h => h) (.inl ⟨by kernel_rfl, ?y41⟩) HS2.out ?_
    case y41 =>
      rintro w' ⟨s2, s3⟩
      go_simp
      first | done | with_reducible rfl | rfl
    try simp only [Act.put]
    refine wpAnyH_take (i := 18) (v := ?v42) rfl (by kernel_rfl) (by kernel_rfl) (by kernel_rfl) (fun _ _ _ h => h) (.inl ⟨by kernel_rfl, ?y42⟩) HS2.out ?_
    case y42 =>
      rintro w' ⟨s2, s3⟩
      go_simp
      first | done | with_reducible rfl | rfl
    try simp only [Act.put]
    have z1 := World.rowIs.cell HO2 (show 5 < 6 by omega)
    have z2 := World.rowIs.frozen HO2 5
    have HC := sr_cost (X := X) HO2 HN.out hr
    have HS3 : Hid (NsS L H F (w2.setCell ⟨F, 5, none⟩ (.slice (some ⟨G, 0, none⟩) N N))) := ⟨HC.c2, HC.c3⟩
    have HI : Hid (NsRel A B n m c d L H F G X w1 (.int .i64 0) (w2.setCell ⟨F, 5, none⟩ (.slice (some ⟨G, 0, none⟩) N N))) := ⟨0, Nat.zero_le _, rfl, HC, by rw [HF0.out]; exact HbW.out.setCell (Nat.le_refl _) _⟩
    replace z1 : w2.cell? ⟨F, 5, none⟩ = some (.slice none 0 0) := z1
    refine held_one (i := 19) (by kernel_rfl) rfl (by rfl) ?_
    unfold Oper.wp
    go_simp
    refine ⟨HS3.out, ?_⟩
    refine held_done (by kernel_rfl) ?_
    have s3 := HS3.out.2
    clear HC HS2 HS3 HO2 hr HbB HbW z1 z2
    generalize w2.setCell ⟨F, 5, none⟩ (.slice (some ⟨G, 0, none⟩) N N) = w3 at *
    go_wp2_with fail
    go_loopw [60] (fun j wr => NsRel A B n m c d L H F G X w1 j wr) (fun j _ => H + 1 - (intOf j).toNat)
    case atStart => exact HI.out
    case round =>
      clear HI s3
      obtain ⟨a, ha, rfl, hs, hbw⟩ := hrel
      by_cases hlt : a ≤ H
      · obtain ⟨t, ht⟩ : ∃ t, a + L + 1 = t := ⟨_, rfl⟩
        have CP := Lib.hid (bplace_any (hs.drewN 1) (a : Int) t (by omega) (by omega) hLb (by omega))
        have htN : t < N := by have := HN.out; omega
        have hix : 0 ≤ (t : Int) ∧ (t : Int) < (N : Int) := by omega
        have c5 := hs.c5
        rw [HN.out] at c5
        have HT0 : Hid (NtS F G N wr.drew) := ⟨c5, trivial⟩
        have HT1 : Hid (∀ q, NtS F G N ((wr.drewN 1).drewN q)) := fun _ => ⟨c5, trivial⟩
        have HZ : Hid (∀ q, ((wr.drewN 1).drewN q).cell? ⟨G, t, none⟩ = some (.int .i64 (nsG X L a t)) ∧ ((wr.drewN 1).drewN q).frozen? ⟨G, t, none⟩ = false) := fun q => ⟨hs.at (t := t) (by have := HN.out; omega), hs.far.frozen t⟩
        have HR : Hid (∀ q, NsRel A B n m c d L H F G X w1 (.int .i64 ((a + 1 : Nat) : Int)) (((wr.drewN 1).drewN q).setCell ⟨G, t, none⟩ (.int .i64 (a : Int)))) := fun q =>
          ⟨a + 1, by omega, rfl, (((hs.drewN 1).drewN q).put t (a : Int)).congr (g' := nsG X L (a + 1)) fun s _ => by rw [nsG_next, ht], (below_drewN (below_drewN hbw 1) q).setCell (by rw [HF0.out]; exact hGF) _⟩
        have HP : Hid (∀ q, NtS F G N (((wr.drewN 1).drewN q).setCell ⟨G, t, none⟩ (.int .i64 (a : Int)))) := fun q => by
          have := (((hs.drewN 1).drewN q).put t (a : Int)).c5
          rw [HN.out] at this
          exact ⟨this, trivial⟩
        clear hs hbw c5 ht
        go_wp2_with fail
        refine wp_region_held (S := NtS F G N) hmx ?_
        refine wpAnyH_take (i := 0) (v := ?v43) rfl (by kernel_rfl) (by kernel_rfl) (by kernel_rfl) (fun _ _ _ h => h) (.inl ⟨by kernel_rfl, ?y43⟩) HT0.out ?_
        case y43 =>
          rintro w' ⟨s5, _⟩
          go_simp
          first | done | with_reducible rfl | rfl
        try simp only [Act.put]
        refine wpAnyH_take (i := 1) (v := ?v44) rfl (by kernel_rfl) (by kernel_rfl) (by kernel_rfl) (fun _ _ _ h => h) (.inl ⟨by kernel_rfl, ?y44⟩) HT0.out ?_
        case y44 =>
          rintro w' ⟨s5, _⟩
          go_simp
          first | done | with_reducible rfl | rfl
        try simp only [Act.put]
        refine wpAnyH_take (i := 2) (v := ?v45) rfl (by kernel_rfl) (by kernel_rfl) (by kernel_rfl) (fun _ _ _ h => h) (.inl ⟨by kernel_rfl, ?y45⟩) HT0.out ?_
        case y45 =>
          rintro w' ⟨s5, _⟩
          go_simp
          first | done | with_reducible rfl | rfl
        try simp only [Act.put]
        refine wpAnyH_take (i := 3) (v := ?v46) rfl (by kernel_rfl) (by kernel_rfl) (by kernel_rfl) (fun _ _ _ h => h) (.inl ⟨by kernel_rfl, ?y46⟩) HT0.out ?_
        case y46 =>
          rintro w' ⟨s5, _⟩
          go_simp
          first | done | with_reducible rfl | rfl
        try simp only [Act.put]
        refine wpAnyH_take (i := 4) (v := ?v47) rfl (by kernel_rfl) (by kernel_rfl) (by kernel_rfl) (fun _ _ _ h => h) (.inl ⟨by kernel_rfl, ?y47⟩) HT0.out ?_
        case y47 =>
          rintro w' ⟨s5, _⟩
          go_simp
          first | done | with_reducible rfl | rfl
        try simp only [Act.put]
        refine wpAnyH_take (i := 5) (v := ?v48) rfl (by kernel_rfl) (by kernel_rfl) (by kernel_rfl) (fun _ _ _ h => h) (.inl ⟨by kernel_rfl, ?y48⟩) HT0.out ?_
        case y48 =>
          rintro w' ⟨s5, _⟩
          go_simp
          first | done | with_reducible rfl | rfl
        try simp only [Act.put]
        refine wpAnyH_take (i := 7) (v := ?v49) rfl (by kernel_rfl) (by kernel_rfl) (by kernel_rfl) (fun _ _ _ h => h) (.inl ⟨by kernel_rfl, ?y49⟩) HT0.out ?_
        case y49 =>
          rintro w' ⟨s5, _⟩
          go_simp
          first | done | with_reducible rfl | rfl
        try simp only [Act.put]
        refine held_one (i := 6) (by kernel_rfl) rfl (by kernel_rfl) ?_
        unfold Oper.wp
        go_simp
        refine (CP.out).mono ?_
        rintro e w4 ⟨rfl, q, rfl⟩
        have HTq := Lib.hid (HT1.out q)
        obtain ⟨z1, z2⟩ := HZ.out q
        have HRq := Lib.hid (HR.out q)
        have HPq := Lib.hid (HP.out q)
        clear CP HT0 HT1 HZ HR HP
        generalize (wr.drewN 1).drewN q = wz at *
        refine ⟨HTq.out, ?_⟩
        try simp only [Act.put]
        refine wpAnyH_take (i := 8) (v := ?v50) rfl (by kernel_rfl) (by kernel_rfl) (by kernel_rfl) (fun _ _ _ h => h) (.inl ⟨by kernel_rfl, ?y50⟩) HTq.out ?_
        case y50 =>
          rintro w' ⟨s5, _⟩
          go_simp
          try simp only [if_pos hix]
          first | done | with_reducible rfl | rfl
        try simp only [Act.put]
        refine held_one (i := 9) (by kernel_rfl) rfl (by rfl) ?_
        unfold Oper.wp
        go_simp
        refine ⟨HPq.out, ?_⟩
        refine held_done (by kernel_rfl) ?_
        clear z1 z2 HPq HTq
        go_wp2_with fail
        go_roundw
        case rel => first | exact HRq.out | ((repeat apply Exists.intro); exact ⟨HRq.out, rfl⟩)
        case measure => simp [intOf]; omega
      · obtain rfl : a = H + 1 := by omega
        have HF := Lib.hid (HD.out F G (nsG X L (H + 1)) wr (fun _ _ => rfl) hs (by rw [HF0.out]; exact Nat.le_refl _) (by rw [HF0.out]; exact hGF) hbw)
        clear HD hs hbw
        go_wp2_with fail
        go_ret
        exact HF.out
  · go_enter Try.func20, Try.ntmps20
    go_wp2_with fail
    refine (CA.out _).mono ?_
    rintro e w1 ⟨rfl, rfl⟩
    clear CA
    go_wp2_with fail
    have HO := sr_new A B n m c d (-(L : Int)) (H : Int) w1
    have hb0 : Below w1.heap.size w1 (w1.alloc (.cells #[.slice A n c, .slice B m d, .int .i64 (-(L : Int)), .int .i64 (H : Int), .int .i64 0, .slice none 0 0] 54)) := (Below.refl _ _).alloc (Nat.le_refl _) _
    generalize w1.alloc (.cells #[.slice A n c, .slice B m d, .int .i64 (-(L : Int)), .int .i64 (H : Int), .int .i64 0, .slice none 0 0] 54) = wA at *
    obtain ⟨F, hF⟩ : ∃ F, w1.heap.size = F := ⟨_, rfl⟩
    have HF0 : Hid (w1.heap.size = F) := hF
    rw [hF] at HO hb0 ⊢
    clear hF
    have hFA : F < wA.heap.size := HO.lt
    have HS0 : Hid (NsS L H F wA.drew) := ⟨World.rowIs.cell HO (by omega), World.rowIs.cell HO (by omega)⟩
    obtain ⟨B1, hB1⟩ : ∃ z, wA.drew.alloc (.cells #[.int .i64 (X : Int)] 3) = z := ⟨_, rfl⟩
    have hb1 : Below wA.heap.size wA B1 := by
      rw [← hB1]
      exact ((Below.refl _ _).drew).alloc (Nat.le_refl _) _
    have hx1 : B1.cell? ⟨wA.heap.size, 0, none⟩ = some (.int .i64 (X : Int)) := by
      have := cell_one_new wA.drew (.int .i64 (X : Int)) 3 0 _ rfl
      rw [Addr.add_lit, hB1] at this
      exact this
    have CR := Lib.hid (repeat_any wA.heap.size 1 N (X : Int) B1 hx1 (by have := HN.out; omega) (by omega))
    have HS1 : Hid (NsS L H F B1) := NsS.keep (w := wA) HS0.out hb1
    have HO1 := (Kp.of_below (fun _ => False) hb1).rowIs HO id
    have HbB : Hid (Below F w1 B1) := hb0.trans (hb1.mono (by omega))
    clear hx1 hb1 HO hb0
    refine wp_region_held (S := NsS L H F) hmx ?_
    refine wpAnyH_take (i := 0) (v := ?v51) rfl (by kernel_rfl) (by kernel_rfl) (by kernel_rfl) (fun _ _ _ h => h) (.inl ⟨by kernel_rfl, ?y51⟩) HS0.out ?_
    case y51 =>
      rintro w' ⟨s2, s3⟩
      go_simp
      try simp only [f1, f2]
      first | done | with_reducible rfl | rfl
    try simp only [Act.put]
    refine wpAnyH_take (i := 1) (v := ?v52) rfl (by kernel_rfl) (by kernel_rfl) (by kernel_rfl) (fun _ _ _ h => h) (.inl ⟨by kernel_rfl, ?y52⟩) HS0.out ?_
    case y52 =>
      rintro w' ⟨s2, s3⟩
      go_simp
      try simp only [f1, f2]
      first | done | with_reducible rfl | rfl
    try simp only [Act.put]
    refine wpAnyH_take (i := 2) (v := ?v53) rfl (by kernel_rfl) (by kernel_rfl) (by kernel_rfl) (fun _ _ _ h => h) (.inl ⟨by kernel_rfl, ?y53⟩) HS0.out ?_
    case y53 =>
      rintro w' ⟨s2, s3⟩
      go_simp
      try simp only [f1, f2]
      first | done | with_reducible rfl | rfl
    try simp only [Act.put]
    refine wpAnyH_take (i := 3) (v := ?v54) rfl (by kernel_rfl) (by kernel_rfl) (by kernel_rfl) (fun _ _ _ h => h) (.inl ⟨by kernel_rfl, ?y54⟩) HS0.out ?_
    case y54 =>
      rintro w' ⟨s2, s3⟩
      go_simp
      try simp only [f1, f2]
      first | done | with_reducible rfl | rfl
    try simp only [Act.put]
    refine wpAnyH_take (i := 4) (v := ?v55) rfl (by kernel_rfl) (by kernel_rfl) (by kernel_rfl) (fun _ _ _ h => h) (.inl ⟨by kernel_rfl, ?y55⟩) HS0.out ?_
    case y55 =>
      rintro w' ⟨s2, s3⟩
      go_simp
      try simp only [f1, f2]
      first | done | with_reducible rfl | rfl
    try simp only [Act.put]
    refine wpAnyH_take (i := 6) (v := ?v56) rfl (by kernel_rfl) (by kernel_rfl) (by kernel_rfl) (fun _ _ _ h => h) (.inl ⟨by kernel_rfl, ?y56⟩) HS0.out ?_
    case y56 =>
      rintro w' ⟨s2, s3⟩
      go_simp
      try simp only [f3, f4, f5]
      first | done | with_reducible rfl | rfl
    try simp only [Act.put]
    refine wpAnyH_take (i := 7) (v := ?v57) rfl (by kernel_rfl) (by kernel_rfl) (by kernel_rfl) (fun _ _ _ h => h) (.inl ⟨by kernel_rfl, ?y57⟩) HS0.out ?_
    case y57 =>
      rintro w' ⟨s2, s3⟩
      go_simp
      try simp only [f3, f4, f5]
      first | done | with_reducible rfl | rfl
    try simp only [Act.put]
    refine wpAnyH_take (i := 8) (v := ?v58) rfl (by kernel_rfl) (by kernel_rfl) (by kernel_rfl) (fun _ _ _ h => h) (.inl ⟨by kernel_rfl, ?y58⟩) HS0.out ?_
    case y58 =>
      rintro w' ⟨s2, s3⟩
      go_simp
      try simp only [f3, f4, f5]
      first | done | with_reducible rfl | rfl
    try simp only [Act.put]
    refine wpAnyH_take (i := 9) (v := ?v59) rfl (by kernel_rfl) (by kernel_rfl) (by kernel_rfl) (fun _ _ _ h => h) (.inl ⟨by kernel_rfl, ?y59⟩) HS0.out ?_
    case y59 =>
      rintro w' ⟨s2, s3⟩
      go_simp
      try simp only [f3, f4, f5]
      first | done | with_reducible rfl | rfl
    try simp only [Act.put]
    refine wpAnyH_take (i := 10) (v := ?v60) rfl (by kernel_rfl) (by kernel_rfl) (by kernel_rfl) (fun _ _ _ h => h) (.inl ⟨by kernel_rfl, ?y60⟩) HS0.out ?_
    case y60 =>
      rintro w' ⟨s2, s3⟩
      go_simp
      try simp only [f3, f4, f5]
      first | done | with_reducible rfl | rfl
    try simp only [Act.put]
    refine wpAnyH_take (i := 11) (v := ?v61) rfl (by kernel_rfl) (by kernel_rfl) (by kernel_rfl) (fun _ _ _ h => h) (.inl ⟨by kernel_rfl, ?y61⟩) HS0.out ?_
    case y61 =>
      rintro w' ⟨s2, s3⟩
      go_simp
      try simp only [f3, f4, f5]
      first | done | with_reducible rfl | rfl
    try simp only [Act.put]
    refine wpAnyH_take (i := 12) (v := ?v62) rfl (by kernel_rfl) (by kernel_rfl) (by kernel_rfl) (fun _ _ _ h => h) (.inl ⟨by kernel_rfl, ?y62⟩) HS0.out ?_
    case y62 =>
      rintro w' ⟨s2, s3⟩
      go_simp
      try simp only [f3, f4, f5]
      first | done | with_reducible rfl | rfl
    try simp only [Act.put]
    refine wpAnyH_take (i := 13) (v := ?v63) rfl (by kernel_rfl) (by kernel_rfl) (by kernel_rfl) (fun _ _ _ h => h) (.inl ⟨by kernel_rfl, ?y63⟩) HS0.out ?_
    case y63 =>
      rintro w' ⟨s2, s3⟩
      go_simp
      try simp only [f3, f4, f5]
      first | done | with_reducible rfl | rfl
    try simp only [Act.put]
    refine wpAnyH_take (i := 14) (v := ?v64) rfl (by kernel_rfl) (by kernel_rfl) (by kernel_rfl) (fun _ _ _ h => h) (.inl ⟨by kernel_rfl, ?y64⟩) HS0.out ?_
    case y64 =>
      rintro w' ⟨s2, s3⟩
      go_simp
      try simp only [f3, f4, f5]
      first | done | with_reducible rfl | rfl
    try simp only [Act.put]
    refine wpAnyH_take (i := 15) (v := ?v65) rfl (by kernel_rfl) (by kernel_rfl) (by kernel_rfl) (fun _ _ _ h => h) (.inl ⟨by kernel_rfl, ?y65⟩) HS0.out ?_
    case y65 =>
      rintro w' ⟨s2, s3⟩
      go_simp
      try simp only [f3, f4, f5]
      first | done | with_reducible rfl | rfl
    try simp only [Act.put]
    refine held_one (i := 5) (by kernel_rfl) rfl (by rfl) ?_
    unfold Oper.wp
    go_simp
    refine ⟨HS1.out, ?_⟩
    try simp only [Act.put]
    refine held_one (i := 16) (by kernel_rfl) rfl (by kernel_rfl) ?_
    unfold Oper.wp
    go_simp
    refine (CR.out).mono ?_
    rintro e w2 ⟨rfl, hr, hb2⟩
    have HS2 : Hid (NsS L H F w2) := NsS.keep HS1.out hb2
    have HO2 := (Kp.of_below (fun _ => False) hb2).rowIs HO1 id
    have HbW : Hid (Below F w1 w2) := HbB.out.trans (hb2.mono (by rw [← HF0.out]; exact HbB.out.size))
    have hGF : F ≤ B1.heap.size := by rw [← HF0.out]; exact HbB.out.size
    clear CR HS0 HS1 HO1 hb2
    generalize B1.heap.size = G at *
    clear hB1
    refine ⟨HS2.out, ?_⟩
    try simp only [Act.put]
    refine wpAnyH_take (i := 17) (v := ?v66) rfl (by kernel_rfl) (by kernel_rfl) (by kernel_rfl) (fun _ _ _ h => h) (.inl ⟨by kernel_rfl, ?y66⟩) HS2.out ?_
    case y66 =>
      rintro w' ⟨s2, s3⟩
      go_simp
      first | done | with_reducible rfl | rfl
    try simp only [Act.put]
    refine wpAnyH_take (i := 18) (v := ?v67) rfl (by kernel_rfl) (by kernel_rfl) (by kernel_rfl) (fun _ _ _ h => h) (.inl ⟨by kernel_rfl, ?y67⟩) HS2.out ?_
    case y67 =>
      rintro w' ⟨s2, s3⟩
      go_simp
      first | done | with_reducible rfl | rfl
    try simp only [Act.put]
    have z1 := World.rowIs.cell HO2 (show 5 < 6 by omega)
    have z2 := World.rowIs.frozen HO2 5
    have HC := sr_cost (X := X) HO2 HN.out hr
    have HS3 : Hid (NsS L H F (w2.setCell ⟨F, 5, none⟩ (.slice (some ⟨G, 0, none⟩) N N))) := ⟨HC.c2, HC.c3⟩
    have HI : Hid (NsRel A B n m c d L H F G X w1 (.int .i64 0) (w2.setCell ⟨F, 5, none⟩ (.slice (some ⟨G, 0, none⟩) N N))) := ⟨0, Nat.zero_le _, rfl, HC, by rw [HF0.out]; exact HbW.out.setCell (Nat.le_refl _) _⟩
    replace z1 : w2.cell? ⟨F, 5, none⟩ = some (.slice none 0 0) := z1
    refine held_one (i := 19) (by kernel_rfl) rfl (by rfl) ?_
    unfold Oper.wp
    go_simp
    refine ⟨HS3.out, ?_⟩
    refine held_done (by kernel_rfl) ?_
    have s3 := HS3.out.2
    clear HC HS2 HS3 HO2 hr HbB HbW z1 z2
    generalize w2.setCell ⟨F, 5, none⟩ (.slice (some ⟨G, 0, none⟩) N N) = w3 at *
    go_wp2_with fail
    go_loopw [60] (fun j wr => NsRel A B n m c d L H F G X w1 j wr) (fun j _ => H + 1 - (intOf j).toNat)
    case atStart => exact HI.out
    case round =>
      clear HI s3
      obtain ⟨a, ha, rfl, hs, hbw⟩ := hrel
      by_cases hlt : a ≤ H
      · obtain ⟨t, ht⟩ : ∃ t, a + L + 1 = t := ⟨_, rfl⟩
        have CP := Lib.hid (bplace_any (hs.drewN 1) (a : Int) t (by omega) (by omega) hLb (by omega))
        have htN : t < N := by have := HN.out; omega
        have hix : 0 ≤ (t : Int) ∧ (t : Int) < (N : Int) := by omega
        have c5 := hs.c5
        rw [HN.out] at c5
        have HT0 : Hid (NtS F G N wr.drew) := ⟨c5, trivial⟩
        have HT1 : Hid (∀ q, NtS F G N ((wr.drewN 1).drewN q)) := fun _ => ⟨c5, trivial⟩
        have HZ : Hid (∀ q, ((wr.drewN 1).drewN q).cell? ⟨G, t, none⟩ = some (.int .i64 (nsG X L a t)) ∧ ((wr.drewN 1).drewN q).frozen? ⟨G, t, none⟩ = false) := fun q => ⟨hs.at (t := t) (by have := HN.out; omega), hs.far.frozen t⟩
        have HR : Hid (∀ q, NsRel A B n m c d L H F G X w1 (.int .i64 ((a + 1 : Nat) : Int)) (((wr.drewN 1).drewN q).setCell ⟨G, t, none⟩ (.int .i64 (a : Int)))) := fun q =>
          ⟨a + 1, by omega, rfl, (((hs.drewN 1).drewN q).put t (a : Int)).congr (g' := nsG X L (a + 1)) fun s _ => by rw [nsG_next, ht], (below_drewN (below_drewN hbw 1) q).setCell (by rw [HF0.out]; exact hGF) _⟩
        have HP : Hid (∀ q, NtS F G N (((wr.drewN 1).drewN q).setCell ⟨G, t, none⟩ (.int .i64 (a : Int)))) := fun q => by
          have := (((hs.drewN 1).drewN q).put t (a : Int)).c5
          rw [HN.out] at this
          exact ⟨this, trivial⟩
        clear hs hbw c5 ht
        go_wp2_with fail
        refine wp_region_held (S := NtS F G N) hmx ?_
        refine wpAnyH_take (i := 0) (v := ?v68) rfl (by kernel_rfl) (by kernel_rfl) (by kernel_rfl) (fun _ _ _ h => h) (.inl ⟨by kernel_rfl, ?y68⟩) HT0.out ?_
        case y68 =>
          rintro w' ⟨s5, _⟩
          go_simp
          first | done | with_reducible rfl | rfl
        try simp only [Act.put]
        refine wpAnyH_take (i := 1) (v := ?v69) rfl (by kernel_rfl) (by kernel_rfl) (by kernel_rfl) (fun _ _ _ h => h) (.inl ⟨by kernel_rfl, ?y69⟩) HT0.out ?_
        case y69 =>
          rintro w' ⟨s5, _⟩
          go_simp
          first | done | with_reducible rfl | rfl
        try simp only [Act.put]
        refine wpAnyH_take (i := 2) (v := ?v70) rfl (by kernel_rfl) (by kernel_rfl) (by kernel_rfl) (fun _ _ _ h => h) (.inl ⟨by kernel_rfl, ?y70⟩) HT0.out ?_
        case y70 =>
          rintro w' ⟨s5, _⟩
          go_simp
          first | done | with_reducible rfl | rfl
        try simp only [Act.put]
        refine wpAnyH_take (i := 3) (v := ?v71) rfl (by kernel_rfl) (by kernel_rfl) (by kernel_rfl) (fun _ _ _ h => h) (.inl ⟨by kernel_rfl, ?y71⟩) HT0.out ?_
        case y71 =>
          rintro w' ⟨s5, _⟩
          go_simp
          first | done | with_reducible rfl | rfl
        try simp only [Act.put]
        refine wpAnyH_take (i := 4) (v := ?v72) rfl (by kernel_rfl) (by kernel_rfl) (by kernel_rfl) (fun _ _ _ h => h) (.inl ⟨by kernel_rfl, ?y72⟩) HT0.out ?_
        case y72 =>
          rintro w' ⟨s5, _⟩
          go_simp
          first | done | with_reducible rfl | rfl
        try simp only [Act.put]
        refine wpAnyH_take (i := 5) (v := ?v73) rfl (by kernel_rfl) (by kernel_rfl) (by kernel_rfl) (fun _ _ _ h => h) (.inl ⟨by kernel_rfl, ?y73⟩) HT0.out ?_
        case y73 =>
          rintro w' ⟨s5, _⟩
          go_simp
          first | done | with_reducible rfl | rfl
        try simp only [Act.put]
        refine wpAnyH_take (i := 7) (v := ?v74) rfl (by kernel_rfl) (by kernel_rfl) (by kernel_rfl) (fun _ _ _ h => h) (.inl ⟨by kernel_rfl, ?y74⟩) HT0.out ?_
        case y74 =>
          rintro w' ⟨s5, _⟩
          go_simp
          first | done | with_reducible rfl | rfl
        try simp only [Act.put]
        refine held_one (i := 6) (by kernel_rfl) rfl (by kernel_rfl) ?_
        unfold Oper.wp
        go_simp
        refine (CP.out).mono ?_
        rintro e w4 ⟨rfl, q, rfl⟩
        have HTq := Lib.hid (HT1.out q)
        obtain ⟨z1, z2⟩ := HZ.out q
        have HRq := Lib.hid (HR.out q)
        have HPq := Lib.hid (HP.out q)
        clear CP HT0 HT1 HZ HR HP
        generalize (wr.drewN 1).drewN q = wz at *
        refine ⟨HTq.out, ?_⟩
        try simp only [Act.put]
        refine wpAnyH_take (i := 8) (v := ?v75) rfl (by kernel_rfl) (by kernel_rfl) (by kernel_rfl) (fun _ _ _ h => h) (.inl ⟨by kernel_rfl, ?y75⟩) HTq.out ?_
        case y75 =>
          rintro w' ⟨s5, _⟩
          go_simp
          try simp only [if_pos hix]
          first | done | with_reducible rfl | rfl
        try simp only [Act.put]
        refine held_one (i := 9) (by kernel_rfl) rfl (by rfl) ?_
        unfold Oper.wp
        go_simp
        refine ⟨HPq.out, ?_⟩
        refine held_done (by kernel_rfl) ?_
        clear z1 z2 HPq HTq
        go_wp2_with fail
        go_roundw
        case rel => first | exact HRq.out | ((repeat apply Exists.intro); exact ⟨HRq.out, rfl⟩)
        case measure => simp [intOf]; omega
      · obtain rfl : a = H + 1 := by omega
        have HF := Lib.hid (HD.out F G (nsG X L (H + 1)) wr (fun _ _ => rfl) hs (by rw [HF0.out]; exact Nat.le_refl _) (by rw [HF0.out]; exact hGF) hbw)
        clear HD hs hbw
        go_wp2_with fail
        go_ret
        exact HF.out
end Go.Proofs.Ythpinbmimgojnaa
