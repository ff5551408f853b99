/-
  Words and contracts that the proof leans on.
-/
import Derived.Test.YtgbcdeahiemhoaaM14
import Derived.Test.YtgbcdeahiemhoaaM30
import Derived.Deep.DeepCutAuto
import Derived.Deep.QuietTactic
namespace Go.Proofs.Ytgbcdeahiemhoaa
open Go.RowKit

/-- The head of a round: s diagonals are done. -/
def RfRel (x y : List Int) (W Q n m T : Nat) (blk : Nat → Nat) (w : World) (v k : Value) (wr : World) : Prop :=
  ∃ s : Nat, s ≤ W + 2 * Q + 1 ∧ k = .int .i64 ((s : Int) - Q) ∧ wr.ownsRow w.heap.size 3 1 v s (iv ((farL x y W Q).take s)) ∧ Tab (fun r c => (px x y r c : Nat)) n m T blk wr ∧ T < w.heap.size ∧ (∀ r, r ≤ n → blk r < w.heap.size) ∧ Below w.heap.size w wr
def RfIn (x y : List Int) (W Q n : Nat) (κ : Int) (wr : World) (v i : Value) (wz : World) : Prop :=
  wz = wr ∧ ∃ k : Nat, k ≤ n + 1 ∧ i = .int .i64 (k : Int) ∧ v = .int .i64 (frB x y W Q κ k)
theorem frB_low (x y : List Int) (W : Nat) (p k : Int) (c : Nat) : -1 ≤ frB x y W p k c ∧ frB x y W p k c ≤ y.length := by
  rcases frB_is x y W p k c with e | ⟨i, j, _, h, _, _, e⟩ <;> omega
theorem farL_take {x y : List Int} {W p s : Nat} (h : s < W + 2 * p + 1) : (farL x y W p).take (s + 1) = (farL x y W p).take s ++ [fr x y W p ((s : Int) - p)] := by
  rw [List.take_add_one, farL_get h]
  rfl
theorem farL_all (x y : List Int) (W p : Nat) : (farL x y W p).take (W + 2 * p + 1) = farL x y W p := List.take_of_length_le (by rw [farL_length]; omega)
theorem frB_no {x y : List Int} {W : Nat} {p k : Int} {i : Nat} (h : ¬ (0 ≤ (i : Int) + k ∧ (i : Int) + k ≤ (y.length : Int))) : frB x y W p k (i + 1) = frB x y W p k i := if_neg fun h' => h h'.1
theorem frB_far {x y : List Int} {W i j : Nat} {p k : Int} (hj : (i : Int) + k = (j : Int)) (h : ¬ ((i : Int) - (px x y i j : Nat) + max (k - W) 0 ≤ p)) : frB x y W p k (i + 1) = frB x y W p k i := by
  refine if_neg fun h' => h ?_
  have h2 := h'.2
  rw [hj, Int.toNat_natCast] at h2
  have := px_le_i x y i j
  unfold cst at h2
  omega
theorem frB_yes {x y : List Int} {W i j : Nat} {p k : Int} (hj : (i : Int) + k = (j : Int)) (hm : j ≤ y.length) (h : (i : Int) - (px x y i j : Nat) + max (k - W) 0 ≤ p) : frB x y W p k (i + 1) = max (frB x y W p k i) (j : Int) := by
  have e : frB x y W p k (i + 1) = max (frB x y W p k i) ((i : Int) + k) := by
    refine if_pos ⟨⟨by omega, by omega⟩, ?_⟩
    rw [hj, Int.toNat_natCast]
    have := px_le_i x y i j
    unfold cst
    omega
  rw [e, hj]

set_option maxRecDepth 100000 in
set_option maxHeartbeats 3200000 in
theorem rfar_any (A B : Option Addr) (n m c d : Nat) (p : Int) (a b : List Int) (w : World) (hn : a.length = n) (hm : b.length = m) (hb : n ≤ 1048576) (hb' : m ≤ 1048576) (h1 : Row w A (iv a)) (h2 : Row w B (iv b)) :
    Calls Try.prog 20 #[.slice A n c, .slice B m d, .int .i64 p] w (MadeI (farI a b p) w) := by
  obtain ⟨i0, hi, hz0, hz1, hz2⟩ := info_parts Try.infoInt
  obtain ⟨hl1, hl2, hl3, hl4, hl5⟩ := sht_len a b
  clear hl4 hl5
  rw [hn, hm] at hl1 hl2
  have HO : Hid (¬ (0 ≤ p ∧ p ≤ ((sht a b).length : Int)) → farI a b p = []) := farI_out
  have HI : Hid (∀ Q : Nat, Q ≤ (sht a b).length → p = (Q : Int) → farI a b p = farL (sht a b) (lng a b) (wdt a b) Q) := fun Q h e => by rw [e]; exact farI_in h
  generalize farI a b p = res at *
  by_cases hmn : m < n
  · skip
    have e := sht_gt (a := a) (b := b) (by omega)
    obtain ⟨A', B', N, M, C, D, r1, r2, hx, hy, hAB⟩ : ∃ (A' B' : Option Addr) (N M C D : Nat), Row w A' (iv (sht a b)) ∧ Row w B' (iv (lng a b)) ∧ (sht a b).length = N ∧ (lng a b).length = M ∧ A' = B ∧ B' = A ∧ N = m ∧ M = n ∧ C = d ∧ D = c := ⟨B, A, m, n, d, c, by rw [e.1]; exact h2, by rw [e.2]; exact h1, by rw [e.1, hm], by rw [e.2, hn], rfl, rfl, rfl, rfl, rfl, rfl⟩
    obtain ⟨rfl, rfl, rfl, rfl, rfl, rfl⟩ := hAB
    clear h1 h2 hn hm e
    generalize sht a b = x at *
    generalize lng a b = y at *
    generalize wdt a b = W at *
    rw [hx] at hl1 hl3 HO HI
    rw [hy] at hl2 hl3
    by_cases hp0 : p < 0
    · have e := HO.out (by omega)
      have HF : Hid (MadeI res w (.returned (.slice none 0 0)) w) := by rw [e]; exact ⟨_, rfl, World.ownsRow_nil _ _ _ _, Below.refl _ _⟩
      clear e HO HI r1 r2 hl1 hl2 hl3 hx hy
      go_enter Try.func20, Try.ntmps20
      go_wp2_with fail
      go_ret
      exact HF.out
    by_cases hp1 : (N : Int) < p
    · have e := HO.out (by omega)
      have HF : Hid (MadeI res w (.returned (.slice none 0 0)) w) := by rw [e]; exact ⟨_, rfl, World.ownsRow_nil _ _ _ _, Below.refl _ _⟩
      clear e HO HI r1 r2 hl1 hl2 hl3 hx hy
      go_enter Try.func20, Try.ntmps20
      go_wp2_with fail
      go_ret
      exact HF.out
    obtain ⟨Q, rfl⟩ : ∃ Q : Nat, p = (Q : Int) := ⟨p.toNat, by omega⟩
    have hQ : Q ≤ N := by omega
    obtain rfl := HI.out Q hQ rfl
    clear HO HI hp0 hp1
    have hN : N ≤ 1048576 := by omega
    have hM : M ≤ 1048576 := by omega
    have CA := Lib.hid (rahead_any A' B' N M C D x y w hx hy hN hM r1 r2)
    have e0 : (M : Int) - (N : Int) = (W : Int) := by omega
    have hx' := Lib.hid hx
    have hy' := Lib.hid hy
    clear hl1 hl2 hx hy r1 r2
    go_enter Try.func20, Try.ntmps20
    go_wp2_with fail
    refine CA.out.mono ?_
    rintro e w2 ⟨T, blk, rfl, hT, hTab, hB2⟩
    have hTl : T < w2.heap.size := hTab.1.lt
    have hbl : ∀ r, r ≤ N → blk r < w2.heap.size := fun r hr => (hTab.2 r hr).lt
    have HI : Hid (RfRel x y W Q N M T blk w2 (.slice none 0 0) (.int .i64 (-(Q : Int))) w2) := ⟨0, by omega, by simp, World.ownsRow_nil _ _ _ _, hTab, hTl, hbl, Below.refl _ _⟩
    have HD : Hid (∀ v wr, RfRel x y W Q N M T blk w2 v (.int .i64 (((W + 2 * Q + 1 : Nat) : Int) - Q)) wr → MadeI (farL x y W Q) w (.returned v) wr) := fun v wr ⟨s, _, q2, q3, _, _, _, q7⟩ => by
      obtain rfl : s = W + 2 * Q + 1 := by
        have : ((W + 2 * Q + 1 : Nat) : Int) - Q = (s : Int) - Q := by injection q2
        omega
      rw [farL_all] at q3
      exact ⟨v, rfl, by rw [farL_length]; exact own_lower q3 hB2.size, below_go hB2 q7⟩
    clear CA hTab hT hTl hbl hB2
    go_wp2_with fail
    go_loopw [11, 12] (fun v k wr => RfRel x y W Q N M T blk w2 v k wr) (fun _ k _ => ((W : Int) + Q + 1 - intOf k).toNat)
    case atStart => exact HI.out
    case round =>
      clear HI
      obtain ⟨s, hs, rfl, hown, hTab, hTl, hbl, hbr⟩ := hrel
      by_cases hlt : s < W + 2 * Q + 1
      · obtain ⟨κ, hκ⟩ : ∃ κ : Int, (s : Int) - Q = κ := ⟨_, rfl⟩
        have HK := Lib.hid hκ
        have k1 : -(Q : Int) ≤ κ := by omega
        have k2 : κ ≤ (W : Int) + Q := by omega
        have HN : Hid (∀ f v' w', f = fr x y W Q κ → w'.ownsRow w2.heap.size 3 1 v' (s + 1) (iv ((farL x y W Q).take s) ++ [.int .i64 f]) → (wr.alloc (.cells #[.int .i64 f] 3)).grownBy w' u11.ownBlock → RfRel x y W Q N M T blk w2 v' (.int .i64 (κ + 1)) w') := fun f v' w' q0 q1 q2 => by
          have hne : ∀ b', b' < w2.heap.size → some b' ≠ u11.ownBlock := fun b' hb' e => by
            have := (hown.lt b' e.symm).1
            omega
          have hkeep : ∀ b', b' < w2.heap.size → w'.heap[b']? = wr.heap[b']? := fun b' hb' => by
            have hs2 := hbr.size
            rw [q2.block b' (by simp; omega) (hne b' hb'), Below.heap_alloc _ _ _ (by omega)]
          refine ⟨s + 1, hlt, by rw [← HK.out]; congr 1; simp; omega, ?_, ⟨hTab.1.of_block (hkeep _ hTl), fun r hr => World.rowIs.of_block (hTab.2 r hr) (hkeep _ (hbl r hr))⟩, hTl, hbl, (hbr.alloc hbr.size _).grown q2 (by have := hbr.size; simp; omega) (fun k e => (hown.lt k e).1)⟩
          have e : iv ((farL x y W Q).take (s + 1)) = iv ((farL x y W Q).take s) ++ [.int .i64 f] := by
            rw [farL_take hlt, HK.out, q0]
            simp [iv]
          rw [e]
          exact q1
        have HC : Hid (∀ i j : Nat, i ≤ N → j ≤ M → wr.cell? ⟨T, i, none⟩ = some (.slice (some ⟨blk i, 0, none⟩) (M + 1) (M + 1)) ∧ wr.cell? ⟨blk i, j, none⟩ = some (.int .i64 (px x y i j : Nat))) := fun i j hi hj => ⟨World.rowIs.cell hTab.1 (by omega), World.rowIs.cell (hTab.2 i hi) (by omega)⟩
        have hsz := hbr.size
        rw [hκ]
        clear hTab hκ
        go_wp2_with fail
        go_loopw [13, 14] (fun f i wz => RfIn x y W Q N κ wr f i wz) (fun _ i _ => N + 1 - (intOf i).toNat)
        case atStart => exact ⟨rfl, 0, Nat.zero_le _, rfl, rfl⟩
        case round =>
          obtain ⟨hwz, i, hi1, rfl, rfl⟩ := hrel
          subst hwz
          by_cases hiN : i < N + 1
          · have F0 := frB_low x y W Q κ i
            rw [hy'.out] at F0
            by_cases hj0 : (i : Int) + κ < 0
            · have R : Hid (RfIn x y W Q N κ wr (.int .i64 (frB x y W Q κ i)) (.int .i64 ((i + 1 : Nat) : Int)) wr) := ⟨rfl, i + 1, hiN, rfl, by rw [frB_no (by omega)]⟩
              clear HC HN hown
              generalize frB x y W Q κ i = f at *
              go_wp2_with fail
              go_roundw
              case rel => first | exact R.out | ((repeat apply Exists.intro); exact ⟨R.out, rfl⟩)
              case measure => simp [intOf]; omega
            by_cases hj1 : (M : Int) < (i : Int) + κ
            · have R : Hid (RfIn x y W Q N κ wr (.int .i64 (frB x y W Q κ i)) (.int .i64 ((i + 1 : Nat) : Int)) wr) := ⟨rfl, i + 1, hiN, rfl, by rw [frB_no (by rw [hy'.out]; omega)]⟩
              clear HC HN hown
              generalize frB x y W Q κ i = f at *
              go_wp2_with fail
              go_roundw
              case rel => first | exact R.out | ((repeat apply Exists.intro); exact ⟨R.out, rfl⟩)
              case measure => simp [intOf]; omega
            obtain ⟨j, hj⟩ : ∃ j : Nat, (i : Int) + κ = (j : Int) := ⟨((i : Int) + κ).toNat, by omega⟩
            have hjM : j ≤ M := by omega
            obtain ⟨t1, t2⟩ := HC.out i j (by omega) hjM
            have hpx := px_le_i x y i j
            obtain ⟨Z, hZ⟩ : ∃ Z : Int, max (κ - W) 0 = Z := ⟨_, rfl⟩
            have eZ : (if κ - (W : Int) < 0 then (0 : Int) else κ - (W : Int)) = Z := by rw [← hZ]; split <;> omega
            have Z1 : 0 ≤ Z := by omega
            have Z2 : Z ≤ 1048576 := by omega
            have HY := Lib.hid (fun h => frB_yes (x := x) (y := y) (W := W) (p := (Q : Int)) hj (by rw [hy'.out]; exact hjM) h)
            have HX := Lib.hid (fun h => frB_far (x := x) (y := y) (W := W) (p := (Q : Int)) hj h)
            rw [hZ] at HY HX
            clear hZ HC
            generalize px x y i j = X at *
            have HR : Hid (∀ f, f = frB x y W Q κ (i + 1) → RfIn x y W Q N κ wr (.int .i64 f) (.int .i64 ((i + 1 : Nat) : Int)) wr) := fun f e => ⟨rfl, i + 1, hiN, rfl, by rw [e]⟩
            by_cases hcst : (i : Int) - (X : Int) + Z ≤ (Q : Int)
            · have R := Lib.hid (HR.out (if frB x y W Q κ i < (j : Int) then (j : Int) else frB x y W Q κ i) (by rw [HY.out hcst]; split <;> omega))
              clear HN hown HX HY HR
              generalize frB x y W Q κ i = f at *
              go_wp2_with fail
              go_roundw
              case rel => first | exact R.out | ((repeat apply Exists.intro); exact ⟨R.out, rfl⟩)
              case measure => simp [intOf]; omega
            · have R := Lib.hid (HR.out (frB x y W Q κ i) (HX.out hcst).symm)
              clear HN hown HX HY HR
              generalize frB x y W Q κ i = f at *
              go_wp2_with fail
              go_roundw
              case rel => first | exact R.out | ((repeat apply Exists.intro); exact ⟨R.out, rfl⟩)
              case measure => simp [intOf]; omega
          · obtain rfl : i = N + 1 := by omega
            have F0 := frB_low x y W Q κ (N + 1)
            rw [hy'.out] at F0
            have HN2 := Lib.hid (HN.out (frB x y W Q κ (N + 1)))
            have hfr : Hid (frB x y W Q κ (N + 1) = fr x y W Q κ) := by show _ = frB x y W Q κ (x.length + 1); rw [hx'.out]
            clear HC HN
            generalize frB x y W Q κ (N + 1) = f at *
            have hs' : s ≤ 4194304 := by omega
            go_wp2_with (at_builtin; refine wpList_append_own _ rfl (.tmp 86) (.tmp 88) 24 rfl w2.heap.size 3 i0 (.int .i64 0) 1 8 Try.underlying24 hi hz0 hz1 hz2 rfl (by decide) _ _ _ rfl (hown.alloc _) ⟨wr.heap.size, 0, none⟩ 1 1 [_] rfl rfl (cell_one_new _ _ _) (one_int _ _) (by unfold maxLen; omega) (by omega) (by simp; omega) ?_)
            intro v' w3 hown' hg' _
            have R := Lib.hid (HN2.out v' w3 hfr.out hown' hg')
            clear hown' hg' hown HN2 hfr
            go_wp2_with fail
            go_roundw
            case rel => first | exact R.out | ((repeat apply Exists.intro); exact ⟨R.out, rfl⟩)
            case measure => simp [intOf]; omega
      · obtain rfl : s = W + 2 * Q + 1 := by omega
        have HF := Lib.hid (HD.out u11 wr ⟨W + 2 * Q + 1, hs, rfl, hown, hTab, hTl, hbl, hbr⟩)
        clear HD hown hTab hbr
        go_wp2_with fail
        go_ret
        exact HF.out

  · skip
    have e := sht_le (a := a) (b := b) (by omega)
    obtain ⟨A', B', N, M, C, D, r1, r2, hx, hy, hAB⟩ : ∃ (A' B' : Option Addr) (N M C D : Nat), Row w A' (iv (sht a b)) ∧ Row w B' (iv (lng a b)) ∧ (sht a b).length = N ∧ (lng a b).length = M ∧ A' = A ∧ B' = B ∧ N = n ∧ M = m ∧ C = c ∧ D = d := ⟨A, B, n, m, c, d, by rw [e.1]; exact h1, by rw [e.2]; exact h2, by rw [e.1, hn], by rw [e.2, hm], rfl, rfl, rfl, rfl, rfl, rfl⟩
    obtain ⟨rfl, rfl, rfl, rfl, rfl, rfl⟩ := hAB
    clear h1 h2 hn hm e
    generalize sht a b = x at *
    generalize lng a b = y at *
    generalize wdt a b = W at *
    rw [hx] at hl1 hl3 HO HI
    rw [hy] at hl2 hl3
    by_cases hp0 : p < 0
    · have e := HO.out (by omega)
      have HF : Hid (MadeI res w (.returned (.slice none 0 0)) w) := by rw [e]; exact ⟨_, rfl, World.ownsRow_nil _ _ _ _, Below.refl _ _⟩
      clear e HO HI r1 r2 hl1 hl2 hl3 hx hy
      go_enter Try.func20, Try.ntmps20
      go_wp2_with fail
      go_ret
      exact HF.out
    by_cases hp1 : (N : Int) < p
    · have e := HO.out (by omega)
      have HF : Hid (MadeI res w (.returned (.slice none 0 0)) w) := by rw [e]; exact ⟨_, rfl, World.ownsRow_nil _ _ _ _, Below.refl _ _⟩
      clear e HO HI r1 r2 hl1 hl2 hl3 hx hy
      go_enter Try.func20, Try.ntmps20
      go_wp2_with fail
      go_ret
      exact HF.out
    obtain ⟨Q, rfl⟩ : ∃ Q : Nat, p = (Q : Int) := ⟨p.toNat, by omega⟩
    have hQ : Q ≤ N := by omega
    obtain rfl := HI.out Q hQ rfl
    clear HO HI hp0 hp1
    have hN : N ≤ 1048576 := by omega
    have hM : M ≤ 1048576 := by omega
    have CA := Lib.hid (rahead_any A' B' N M C D x y w hx hy hN hM r1 r2)
    have e0 : (M : Int) - (N : Int) = (W : Int) := by omega
    have hx' := Lib.hid hx
    have hy' := Lib.hid hy
    clear hl1 hl2 hx hy r1 r2
    go_enter Try.func20, Try.ntmps20
    go_wp2_with fail
    refine CA.out.mono ?_
    rintro e w2 ⟨T, blk, rfl, hT, hTab, hB2⟩
    have hTl : T < w2.heap.size := hTab.1.lt
    have hbl : ∀ r, r ≤ N → blk r < w2.heap.size := fun r hr => (hTab.2 r hr).lt
    have HI : Hid (RfRel x y W Q N M T blk w2 (.slice none 0 0) (.int .i64 (-(Q : Int))) w2) := ⟨0, by omega, by simp, World.ownsRow_nil _ _ _ _, hTab, hTl, hbl, Below.refl _ _⟩
    have HD : Hid (∀ v wr, RfRel x y W Q N M T blk w2 v (.int .i64 (((W + 2 * Q + 1 : Nat) : Int) - Q)) wr → MadeI (farL x y W Q) w (.returned v) wr) := fun v wr ⟨s, _, q2, q3, _, _, _, q7⟩ => by
      obtain rfl : s = W + 2 * Q + 1 := by
        have : ((W + 2 * Q + 1 : Nat) : Int) - Q = (s : Int) - Q := by injection q2
        omega
      rw [farL_all] at q3
      exact ⟨v, rfl, by rw [farL_length]; exact own_lower q3 hB2.size, below_go hB2 q7⟩
    clear CA hTab hT hTl hbl hB2
    go_wp2_with fail
    go_loopw [11, 12] (fun v k wr => RfRel x y W Q N M T blk w2 v k wr) (fun _ k _ => ((W : Int) + Q + 1 - intOf k).toNat)
    case atStart => exact HI.out
    case round =>
      clear HI
      obtain ⟨s, hs, rfl, hown, hTab, hTl, hbl, hbr⟩ := hrel
      by_cases hlt : s < W + 2 * Q + 1
      · obtain ⟨κ, hκ⟩ : ∃ κ : Int, (s : Int) - Q = κ := ⟨_, rfl⟩
        have HK := Lib.hid hκ
        have k1 : -(Q : Int) ≤ κ := by omega
        have k2 : κ ≤ (W : Int) + Q := by omega
        have HN : Hid (∀ f v' w', f = fr x y W Q κ → w'.ownsRow w2.heap.size 3 1 v' (s + 1) (iv ((farL x y W Q).take s) ++ [.int .i64 f]) → (wr.alloc (.cells #[.int .i64 f] 3)).grownBy w' u11.ownBlock → RfRel x y W Q N M T blk w2 v' (.int .i64 (κ + 1)) w') := fun f v' w' q0 q1 q2 => by
          have hne : ∀ b', b' < w2.heap.size → some b' ≠ u11.ownBlock := fun b' hb' e => by
            have := (hown.lt b' e.symm).1
            omega
          have hkeep : ∀ b', b' < w2.heap.size → w'.heap[b']? = wr.heap[b']? := fun b' hb' => by
            have hs2 := hbr.size
            rw [q2.block b' (by simp; omega) (hne b' hb'), Below.heap_alloc _ _ _ (by omega)]
          refine ⟨s + 1, hlt, by rw [← HK.out]; congr 1; simp; omega, ?_, ⟨hTab.1.of_block (hkeep _ hTl), fun r hr => World.rowIs.of_block (hTab.2 r hr) (hkeep _ (hbl r hr))⟩, hTl, hbl, (hbr.alloc hbr.size _).grown q2 (by have := hbr.size; simp; omega) (fun k e => (hown.lt k e).1)⟩
          have e : iv ((farL x y W Q).take (s + 1)) = iv ((farL x y W Q).take s) ++ [.int .i64 f] := by
            rw [farL_take hlt, HK.out, q0]
            simp [iv]
          rw [e]
          exact q1
        have HC : Hid (∀ i j : Nat, i ≤ N → j ≤ M → wr.cell? ⟨T, i, none⟩ = some (.slice (some ⟨blk i, 0, none⟩) (M + 1) (M + 1)) ∧ wr.cell? ⟨blk i, j, none⟩ = some (.int .i64 (px x y i j : Nat))) := fun i j hi hj => ⟨World.rowIs.cell hTab.1 (by omega), World.rowIs.cell (hTab.2 i hi) (by omega)⟩
        have hsz := hbr.size
        rw [hκ]
        clear hTab hκ
        go_wp2_with fail
        go_loopw [13, 14] (fun f i wz => RfIn x y W Q N κ wr f i wz) (fun _ i _ => N + 1 - (intOf i).toNat)
        case atStart => exact ⟨rfl, 0, Nat.zero_le _, rfl, rfl⟩
        case round =>
          obtain ⟨hwz, i, hi1, rfl, rfl⟩ := hrel
          subst hwz
          by_cases hiN : i < N + 1
          · have F0 := frB_low x y W Q κ i
            rw [hy'.out] at F0
            by_cases hj0 : (i : Int) + κ < 0
            · have R : Hid (RfIn x y W Q N κ wr (.int .i64 (frB x y W Q κ i)) (.int .i64 ((i + 1 : Nat) : Int)) wr) := ⟨rfl, i + 1, hiN, rfl, by rw [frB_no (by omega)]⟩
              clear HC HN hown
              generalize frB x y W Q κ i = f at *
              go_wp2_with fail
              go_roundw
              case rel => first | exact R.out | ((repeat apply Exists.intro); exact ⟨R.out, rfl⟩)
              case measure => simp [intOf]; omega
            by_cases hj1 : (M : Int) < (i : Int) + κ
            · have R : Hid (RfIn x y W Q N κ wr (.int .i64 (frB x y W Q κ i)) (.int .i64 ((i + 1 : Nat) : Int)) wr) := ⟨rfl, i + 1, hiN, rfl, by rw [frB_no (by rw [hy'.out]; omega)]⟩
              clear HC HN hown
              generalize frB x y W Q κ i = f at *
              go_wp2_with fail
              go_roundw
              case rel => first | exact R.out | ((repeat apply Exists.intro); exact ⟨R.out, rfl⟩)
              case measure => simp [intOf]; omega
            obtain ⟨j, hj⟩ : ∃ j : Nat, (i : Int) + κ = (j : Int) := ⟨((i : Int) + κ).toNat, by omega⟩
            have hjM : j ≤ M := by omega
            obtain ⟨t1, t2⟩ := HC.out i j (by omega) hjM
            have hpx := px_le_i x y i j
            obtain ⟨Z, hZ⟩ : ∃ Z : Int, max (κ - W) 0 = Z := ⟨_, rfl⟩
            have eZ : (if κ - (W : Int) < 0 then (0 : Int) else κ - (W : Int)) = Z := by rw [← hZ]; split <;> omega
            have Z1 : 0 ≤ Z := by omega
            have Z2 : Z ≤ 1048576 := by omega
            have HY := Lib.hid (fun h => frB_yes (x := x) (y := y) (W := W) (p := (Q : Int)) hj (by rw [hy'.out]; exact hjM) h)
            have HX := Lib.hid (fun h => frB_far (x := x) (y := y) (W := W) (p := (Q : Int)) hj h)
            rw [hZ] at HY HX
            clear hZ HC
            generalize px x y i j = X at *
            have HR : Hid (∀ f, f = frB x y W Q κ (i + 1) → RfIn x y W Q N κ wr (.int .i64 f) (.int .i64 ((i + 1 : Nat) : Int)) wr) := fun f e => ⟨rfl, i + 1, hiN, rfl, by rw [e]⟩
            by_cases hcst : (i : Int) - (X : Int) + Z ≤ (Q : Int)
            · have R := Lib.hid (HR.out (if frB x y W Q κ i < (j : Int) then (j : Int) else frB x y W Q κ i) (by rw [HY.out hcst]; split <;> omega))
              clear HN hown HX HY HR
              generalize frB x y W Q κ i = f at *
              go_wp2_with fail
              go_roundw
              case rel => first | exact R.out | ((repeat apply Exists.intro); exact ⟨R.out, rfl⟩)
              case measure => simp [intOf]; omega
            · have R := Lib.hid (HR.out (frB x y W Q κ i) (HX.out hcst).symm)
              clear HN hown HX HY HR
              generalize frB x y W Q κ i = f at *
              go_wp2_with fail
              go_roundw
              case rel => first | exact R.out | ((repeat apply Exists.intro); exact ⟨R.out, rfl⟩)
              case measure => simp [intOf]; omega
          · obtain rfl : i = N + 1 := by omega
            have F0 := frB_low x y W Q κ (N + 1)
            rw [hy'.out] at F0
            have HN2 := Lib.hid (HN.out (frB x y W Q κ (N + 1)))
            have hfr : Hid (frB x y W Q κ (N + 1) = fr x y W Q κ) := by show _ = frB x y W Q κ (x.length + 1); rw [hx'.out]
            clear HC HN
            generalize frB x y W Q κ (N + 1) = f at *
            have hs' : s ≤ 4194304 := by omega
            go_wp2_with (at_builtin; refine wpList_append_own _ rfl (.tmp 86) (.tmp 88) 24 rfl w2.heap.size 3 i0 (.int .i64 0) 1 8 Try.underlying24 hi hz0 hz1 hz2 rfl (by decide) _ _ _ rfl (hown.alloc _) ⟨wr.heap.size, 0, none⟩ 1 1 [_] rfl rfl (cell_one_new _ _ _) (one_int _ _) (by unfold maxLen; omega) (by omega) (by simp; omega) ?_)
            intro v' w3 hown' hg' _
            have R := Lib.hid (HN2.out v' w3 hfr.out hown' hg')
            clear hown' hg' hown HN2 hfr
            go_wp2_with fail
            go_roundw
            case rel => first | exact R.out | ((repeat apply Exists.intro); exact ⟨R.out, rfl⟩)
            case measure => simp [intOf]; omega
      · obtain rfl : s = W + 2 * Q + 1 := by omega
        have HF := Lib.hid (HD.out u11 wr ⟨W + 2 * Q + 1, hs, rfl, hown, hTab, hTl, hbl, hbr⟩)
        clear HD hown hTab hbr
        go_wp2_with fail
        go_ret
        exact HF.out

end Go.Proofs.Ytgbcdeahiemhoaa
