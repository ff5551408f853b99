/-
  The reference's Square.
-/
import Derived.Test.YtbfgfeggiicmbaaTlF
import Derived.Test.YtbfgfeggiicmbaaRefI
namespace Go.Proofs.Ytbfgfeggiicmbaa
open Go.RowKit

theorem Try.infoInts2 : (Try.prog.info? 59).map (fun i => (i.zero, i.size, i.bytes)) = some (some (.slice none 0 0), 1, 24) := by kernel_rfl

/-- k rows of noughts are made. -/
def SmR (t T k : Nat) (wr : World) : Prop :=
  wr.rowIs T 59 (t + 1) (fun r => if r < k then .slice (some ⟨T + 1 + r, 0, none⟩) (t + 1) (t + 1) else .slice none 0 0) ∧ (∀ r, r < k → wr.rowIs (T + 1 + r) 3 (t + 1) (fun _ => .int .i64 0)) ∧ wr.heap.size = T + 1 + k
theorem sm_start (t : Nat) (w : World) : SmR t w.heap.size 0 (w.alloc (.cells (madeCells #[.slice none 0 0] (t + 1)) 59)) :=
  ⟨(World.rowIs_made w _ _ _).congr fun i _ => by simp, fun r h => by omega, by simp⟩
theorem sm_step {t T k : Nat} {wr : World} (h : SmR t T k wr) : SmR t T (k + 1) ((wr.alloc (.cells (madeCells #[.int .i64 0] (t + 1)) 3)).setCell ⟨T, k, none⟩ (.slice (some ⟨T + 1 + k, 0, none⟩) (t + 1) (t + 1))) := by
  obtain ⟨h1, h2, h3⟩ := h
  refine ⟨((h1.alloc _).set k _).congr fun i hi => ?_, fun r hr => ?_, by simp [h3]; omega⟩
  · by_cases e : i = k
    · subst e
      rw [if_pos rfl, if_pos (by omega)]
    · rw [if_neg e]
      by_cases g : i < k
      · rw [if_pos g, if_pos (by omega)]
      · rw [if_neg g, if_neg (by omega)]
  · by_cases e : r = k
    · subst e
      have := World.rowIs_made wr (.int .i64 0) (t + 1) 3
      rw [h3] at this
      exact this.setOther (by show T + 1 + r ≠ T; omega) _
    · exact World.rowIs.setOther (World.rowIs.alloc (h2 r (by omega)) _) (by show T + 1 + r ≠ T; omega) _

/-- The reference's table: of it the told places are as they should be. -/
def SqR (S : Nat → Nat → Nat) (t : Nat) (K : Nat → Nat → Prop) (w wr : World) : Prop :=
  wr.rowIs w.heap.size 59 (t + 1) (fun r => .slice (some ⟨w.heap.size + 1 + r, 0, none⟩) (t + 1) (t + 1)) ∧
    (∃ g : Nat → Nat → Int, (∀ r, r ≤ t → wr.rowIs (w.heap.size + 1 + r) 3 (t + 1) (fun c => .int .i64 (g r c))) ∧ ∀ r c, r ≤ t → c ≤ t → K r c → g r c = (S r c : Int)) ∧ Below w.heap.size w wr
section
variable {S : Nat → Nat → Nat} {t : Nat} {K K' : Nat → Nat → Prop} {w wr wr' : World}
theorem sm_done (h : SmR t w.heap.size (t + 1) wr) (hb : Below w.heap.size w wr) (h0 : S 0 0 = 0) : SqR S t (FlA 0 0) w wr := by
  refine ⟨h.1.congr fun i hi => by rw [if_pos hi], ⟨fun _ _ => 0, fun r hr => h.2.1 r (by omega), fun r c _ _ hk => ?_⟩, hb⟩
  have : r = 0 ∧ c = 0 := by unfold FlA at hk; omega
  obtain ⟨rfl, rfl⟩ := this
  simp [h0]
theorem SqR.weak (h : SqR S t K w wr) (hk : ∀ r c, r ≤ t → c ≤ t → K' r c → K r c) : SqR S t K' w wr := by
  obtain ⟨h0, ⟨g, h1, h2⟩, h3⟩ := h
  exact ⟨h0, ⟨g, h1, fun r c a b k => h2 r c a b (hk r c a b k)⟩, h3⟩
theorem SqR.drew (h : SqR S t K w wr) : SqR S t K w wr.drew := by
  obtain ⟨h0, ⟨g, h1, h2⟩, h3⟩ := h
  exact ⟨h0, ⟨g, h1, h2⟩, h3.drew⟩
theorem SqR.top (h : SqR S t K w wr) {r : Nat} (hr : r ≤ t) : wr.cell? ⟨w.heap.size, r, none⟩ = some (.slice (some ⟨w.heap.size + 1 + r, 0, none⟩) (t + 1) (t + 1)) := World.rowIs.cell h.1 (by omega)
theorem SqR.cell (h : SqR S t K w wr) {r c : Nat} (hr : r ≤ t) (hc : c ≤ t) (hk : K r c) : wr.cell? ⟨w.heap.size + 1 + r, c, none⟩ = some (.int .i64 (S r c : Int)) := by
  obtain ⟨h0, ⟨g, h1, h2⟩, h3⟩ := h
  rw [World.rowIs.cell (h1 r hr) (by omega), h2 r c hr hc hk]
theorem SqR.any (h : SqR S t K w wr) {r c : Nat} (hr : r ≤ t) (hc : c ≤ t) : ∃ v, wr.cell? ⟨w.heap.size + 1 + r, c, none⟩ = some v := by
  obtain ⟨h0, ⟨g, h1, h2⟩, h3⟩ := h
  exact ⟨_, World.rowIs.cell (h1 r hr) (by omega)⟩
theorem SqR.frozen (h : SqR S t K w wr) {r : Nat} (hr : r ≤ t) (i : Nat) : wr.frozen? ⟨w.heap.size + 1 + r, i, none⟩ = false := by
  obtain ⟨h0, ⟨g, h1, h2⟩, h3⟩ := h
  exact World.rowIs.frozen (h1 r hr) i
theorem SqR.put (h : SqR S t K w wr) {r c : Nat} {v : Int} (hv : v = (S r c : Int)) (hk : ∀ r' c', r' ≤ t → c' ≤ t → K' r' c' → K r' c' ∨ (r' = r ∧ c' = c)) : SqR S t K' w (wr.setCell ⟨w.heap.size + 1 + r, c, none⟩ (.int .i64 v)) := by
  subst hv
  obtain ⟨h0, ⟨g, h1, h2⟩, h3⟩ := h
  refine ⟨World.rowIs.setOther h0 (by show w.heap.size ≠ w.heap.size + 1 + r; omega) _, ⟨fun r' c' => if r' = r ∧ c' = c then (S r c : Int) else g r' c', fun r' hr' => ?_, fun r' c' hr' hc' hk' => ?_⟩, h3.setCell (by show _ ≤ w.heap.size + 1 + r; omega) _⟩
  · by_cases e : r' = r
    · subst e
      refine World.rowIs.congr (World.rowIs.set (h1 r' hr') c _) fun j _ => ?_
      by_cases e : j = c
      · simp [e]
      · simp [e]
    · refine World.rowIs.congr (World.rowIs.setOther (h1 r' hr') (by show w.heap.size + 1 + r' ≠ w.heap.size + 1 + r; omega) _) fun j _ => ?_
      simp [e]
  · rcases hk r' c' hr' hc' hk' with hk'' | ⟨rfl, rfl⟩
    · by_cases e : r' = r ∧ c' = c
      · obtain ⟨rfl, rfl⟩ := e
        simp
      · simp only [if_neg e]
        exact h2 r' c' hr' hc' hk''
    · simp
theorem SqR.below (h : SqR S t K w wr) (hb : Below wr.heap.size wr wr') : SqR S t K w wr' := by
  obtain ⟨h0, ⟨g, h1, h2⟩, h3⟩ := h
  exact ⟨rowIs_grown h0 (below_grown hb none) (by simp), ⟨g, fun r hr => rowIs_grown (h1 r hr) (below_grown hb none) (by simp), h2⟩, below_go h3 hb⟩
end
/-- What Square leaves. -/
def SqMade (S : Nat → Nat → Nat) (t : Nat) (w : World) (e : Ending) (w' : World) : Prop := e = .returned (.slice (some ⟨w.heap.size, 0, none⟩) (t + 1) (t + 1)) ∧ SqR S t (FlB t 0) w w'

set_option maxRecDepth 100000 in
set_option maxHeartbeats 3200000 in
theorem square_any (t eq top left : Nat) (w : World) (ht : 1 ≤ t ∧ t ≤ 3) :
    Calls Try.prog 21 #[.int .i64 (t : Int), .int .i64 (eq : Int), .int .i64 (top : Int), .int .i64 (left : Int)] w (SqMade (sqN t eq top left) t w) := by
  obtain ⟨i0, hi, hz0, hz1, hz2⟩ := info_parts Try.infoInt
  obtain ⟨j0, ji, jz0, jz1, jz2⟩ := info_parts Try.infoInts2
  have HT := Lib.hid (sq_top t eq top left)
  have HL := Lib.hid (sq_left t eq top left)
  have HI := Lib.hid (sq_in t eq top left)
  have HB := Lib.hid (sqN_le t eq top left)
  have H0 : Hid (sqN t eq top left 0 0 = 0) := sq_00
  generalize sqN t eq top left = S at *
  go_enter Try.func21, Try.ntmps21
  go_wp2_with (at_make; refine wpList_make_row _ rfl _ _ 57 rfl 59 j0 (.slice none 0 0) Try.underlying57 ji jz0 jz1 rfl .i64 .i64 (t + 1) rfl rfl (by rw [jz2]; omega) (by omega) ?_)
  have hT := sm_start t w
  have hB0 : Below w.heap.size w (w.alloc (.cells (madeCells #[.slice none 0 0] (t + 1)) 59)) := (Below.refl _ _).alloc (Nat.le_refl _) _
  generalize w.alloc (.cells (madeCells #[.slice none 0 0] (t + 1)) 59) = wa at *
  go_wp2_with fail
  go_loopw [10] (fun i wr => ∃ k : Nat, k ≤ t + 1 ∧ i = .int .i64 (k : Int) ∧ SmR t w.heap.size k wr ∧ Below w.heap.size w wr) (fun i _ => t + 1 - (intOf i).toNat)
  case atStart => exact ⟨0, Nat.zero_le _, rfl, hT, hB0⟩
  case round =>
    clear hT hB0
    obtain ⟨k, hk, rfl, hT, hB⟩ := hrel
    by_cases hlt : k < t + 1
    · have hsz : wr.heap.size = w.heap.size + 1 + k := hT.2.2
      have c0 : ∀ o, (wr.alloc o).cell? ⟨w.heap.size, k, none⟩ = some (.slice none 0 0) := fun o => by rw [(hT.1.alloc o).cell hlt, if_neg (by omega)]
      have f0 : ∀ o, (wr.alloc o).frozen? ⟨w.heap.size, k, none⟩ = false := fun o => (hT.1.alloc o).frozen k
      have R := Lib.hid (sm_step hT)
      have RB : Hid (Below w.heap.size w ((wr.alloc (.cells (madeCells #[.int .i64 0] (t + 1)) 3)).setCell ⟨w.heap.size, k, none⟩ (.slice (some ⟨w.heap.size + 1 + k, 0, none⟩) (t + 1) (t + 1)))) := (hB.alloc (by omega) _).setCell (Nat.le_refl _) _
      clear hT hB
      go_wp2_with (at_make; refine wpList_make_row _ rfl _ _ 59 rfl 3 i0 (.int .i64 0) Try.underlying59 hi hz0 hz1 rfl .i64 .i64 (t + 1) rfl rfl (by rw [hz2]; omega) (by omega) ?_)
      go_wp2_with fail
      go_roundw
      case rel => exact ⟨k + 1, hlt, by go_num, R.out, RB.out⟩
      case measure => simp [intOf]; omega
    · obtain rfl : k = t + 1 := by omega
      have hF := sm_done (S := S) hT hB H0.out
      clear hT hB
      go_wp2_with fail
      go_loopw [11] (fun i wr => ∃ c : Nat, 1 ≤ c ∧ c ≤ t + 1 ∧ i = .int .i64 (c : Int) ∧ SqR S t (FlA (c - 1) (c - 1)) w wr) (fun i _ => t + 1 - (intOf i).toNat)
      case atStart => exact ⟨1, Nat.le_refl _, by omega, rfl, hF⟩
      case round =>
        clear hF
        obtain ⟨c, hc1, hc, rfl, hF⟩ := hrel
        by_cases hlt : c < t + 1
        · obtain ⟨k, rfl⟩ : ∃ k, c = k + 1 := ⟨c - 1, by omega⟩
          rw [Nat.add_sub_cancel] at hF
          have t0 := hF.top (r := 0) (by omega)
          have c1 := hF.cell (r := 0) (c := k) (by omega) (by omega) (.inl ⟨rfl, Nat.le_refl _⟩)
          obtain ⟨v2, c2⟩ := hF.any (r := 0) (c := k + 1) (by omega) (by omega)
          have f2 := hF.frozen (r := 0) (by omega) (k + 1)
          rw [Nat.add_zero] at t0 c1 c2 f2
          have e1 := and_bitN top k
          have b1 := bitN_le top k
          have s1 := HB.out 0 k
          have HV := HT.out k
          generalize bitN top k = bk at *
          generalize S 0 k = s at *
          have HR := Lib.hid (SqR.drew (SqR.put (K' := FlA (k + 1) k) (r := 0) (c := k + 1) (v := (s : Int) + (bk : Int)) hF (by rw [HV]; omega) (fun r' c' _ _ h => by unfold FlA at h ⊢; omega)))
          rw [Nat.add_zero] at HR
          clear hF HV
          go_wp2_with fail
          go_region
          have hF := HR.out
          clear HR t0 c1 c2 f2 e1 b1 s1
          generalize (wr.setCell _ _).drew = wy at *
          have t0 := hF.top (r := k) (by omega)
          have t1 := hF.top (r := k + 1) (by omega)
          have c1 := hF.cell (r := k) (c := 0) (by omega) (by omega) (.inr ⟨rfl, Nat.le_refl _⟩)
          obtain ⟨v2, c2⟩ := hF.any (r := k + 1) (c := 0) (by omega) (by omega)
          have f2 := hF.frozen (r := k + 1) (by omega) 0
          have e1 := and_bitN left k
          have b1 := bitN_le left k
          have s1 := HB.out k 0
          have HV := HL.out k
          generalize bitN left k = bl at *
          generalize S k 0 = s' at *
          have HR := Lib.hid (SqR.drew (SqR.put (K' := FlA (k + 1) (k + 1)) (r := k + 1) (c := 0) (v := (s' : Int) + (bl : Int)) hF (by rw [HV]; omega) (fun r' c' _ _ h => by unfold FlA at h ⊢; omega)))
          clear hF HV
          go_wp2_with fail
          go_region
          have hF := HR.out
          clear HR t0 t1 c1 c2 f2 e1 b1 s1
          generalize (wy.setCell _ _).drew = wz at *
          go_wp2_with fail
          go_roundw
          case rel => exact ⟨k + 1 + 1, by omega, by omega, by go_num, by rw [Nat.add_sub_cancel]; exact hF⟩
          case measure => simp [intOf]; omega
        · obtain rfl : c = t + 1 := by omega
          rw [Nat.add_sub_cancel] at hF
          have hF0 := hF.weak (K' := FlB 0 0) (fun r c a b h => by unfold FlA; unfold FlB at h; omega)
          clear hF
          go_wp2_with fail
          go_loopw [12] (fun i wr => ∃ r : Nat, 1 ≤ r ∧ r ≤ t + 1 ∧ i = .int .i64 (r : Int) ∧ SqR S t (FlB (r - 1) 0) w wr) (fun i _ => t + 1 - (intOf i).toNat)
          case atStart => exact ⟨1, Nat.le_refl _, by omega, rfl, hF0⟩
          case round =>
            clear hF0
            obtain ⟨r, hr1, hr, rfl, hF⟩ := hrel
            by_cases hrt : r < t + 1
            · obtain ⟨r, rfl⟩ : ∃ k, r = k + 1 := ⟨r - 1, by omega⟩
              rw [Nat.add_sub_cancel] at hF
              go_wp2_with fail
              go_loopw [13] (fun i wr => ∃ c : Nat, 1 ≤ c ∧ c ≤ t + 1 ∧ i = .int .i64 (c : Int) ∧ SqR S t (FlB r (c - 1)) w wr) (fun i _ => t + 1 - (intOf i).toNat)
              case atStart => exact ⟨1, Nat.le_refl _, by omega, rfl, hF⟩
              case round =>
                clear hF
                obtain ⟨c, hc1, hc, rfl, hF⟩ := hrel
                by_cases hct : c < t + 1
                · obtain ⟨c, rfl⟩ : ∃ k, c = k + 1 := ⟨c - 1, by omega⟩
                  rw [Nat.add_sub_cancel] at hF
                  obtain ⟨X, hX⟩ : ∃ X, r * t = X := ⟨_, rfl⟩
                  have hX6 : X ≤ 6 := by rw [← hX]; exact Nat.mul_le_mul (show r ≤ 2 by omega) ht.2
                  have e1 : (r : Int) * (t : Int) = (X : Int) := by rw [← hX]; simp
                  have e2 := and_bitN eq (X + c)
                  have b1 := bitN_le eq (X + c)
                  have HV := HI.out r c
                  rw [hX] at HV
                  have t1 := hF.top (r := r) (by omega)
                  have t2 := hF.top (r := r + 1) (by omega)
                  have c1 := hF.cell (r := r) (c := c) (by omega) (by omega) (by unfold FlB; omega)
                  have c2 := hF.cell (r := r) (c := c + 1) (by omega) (by omega) (by unfold FlB; omega)
                  have c3 := hF.cell (r := r + 1) (c := c) (by omega) (by omega) (by unfold FlB; omega)
                  obtain ⟨v4, c4⟩ := hF.any (r := r + 1) (c := c + 1) (by omega) (by omega)
                  have f4 := hF.frozen (r := r + 1) (by omega) (c + 1)
                  have s1 := HB.out r c
                  have s2 := HB.out r (c + 1)
                  have s3 := HB.out (r + 1) c
                  have HR : Hid (∀ v : Int, v = (S (r + 1) (c + 1) : Int) → SqR S t (FlB r (c + 1)) w (wr.setCell ⟨w.heap.size + 1 + (r + 1), c + 1, none⟩ (.int .i64 v)).drew) := fun v hv =>
                    SqR.drew (SqR.put (K' := FlB r (c + 1)) (r := r + 1) (c := c + 1) (v := v) hF hv (fun r' c' _ _ h => by unfold FlB at h ⊢; omega))
                  generalize S r c = A at *
                  generalize S r (c + 1) = B at *
                  generalize S (r + 1) c = C at *
                  generalize S (r + 1) (c + 1) = D at *
                  clear hF
                  generalize bitN eq (X + c) = bb at *
                  clear hX
                  rcases (show bb = 1 ∨ bb = 0 by omega) with rfl | rfl
                  · rw [if_pos rfl] at HV
                    have HR := Lib.hid (HR.out ((A : Int) + 1) (by rw [HV]; omega))
                    clear HV
                    go_wp2_with fail
                    go_region
                    have hF := HR.out
                    clear HR t1 t2 c1 c2 c3 c4 f4 e2 s1 s2 s3
                    generalize (wr.setCell _ _).drew = wz at *
                    go_wp2_with fail
                    go_roundw
                    case rel => exact ⟨c + 1 + 1, by omega, by omega, by go_num, by rw [Nat.add_sub_cancel]; exact hF⟩
                    case measure => simp [intOf]; omega
                  · rw [if_neg (by decide)] at HV
                    by_cases hBC : B < C
                    · have HR := Lib.hid (HR.out ((C : Int)) (by rw [HV]; omega))
                      clear HV
                      go_wp2_with fail
                      go_region
                      have hF := HR.out
                      clear HR t1 t2 c1 c2 c3 c4 f4 e2 s1 s2 s3
                      generalize (wr.setCell _ _).drew = wz at *
                      go_wp2_with fail
                      go_roundw
                      case rel => exact ⟨c + 1 + 1, by omega, by omega, by go_num, by rw [Nat.add_sub_cancel]; exact hF⟩
                      case measure => simp [intOf]; omega
                    · have HR := Lib.hid (HR.out ((B : Int)) (by rw [HV]; omega))
                      clear HV
                      go_wp2_with fail
                      go_region
                      have hF := HR.out
                      clear HR t1 t2 c1 c2 c3 c4 f4 e2 s1 s2 s3
                      generalize (wr.setCell _ _).drew = wz at *
                      go_wp2_with fail
                      go_roundw
                      case rel => exact ⟨c + 1 + 1, by omega, by omega, by go_num, by rw [Nat.add_sub_cancel]; exact hF⟩
                      case measure => simp [intOf]; omega
                · obtain rfl : c = t + 1 := by omega
                  rw [Nat.add_sub_cancel] at hF
                  have hF1 := hF.weak (K' := FlB (r + 1) 0) (fun r' c' a b h => by unfold FlB at h ⊢; omega)
                  clear hF
                  go_wp2_with fail
                  go_roundw
                  case rel => exact ⟨r + 1 + 1, by omega, by omega, by go_num, by rw [Nat.add_sub_cancel]; exact hF1⟩
                  case measure => simp [intOf]; omega
            · obtain rfl : r = t + 1 := by omega
              rw [Nat.add_sub_cancel] at hF
              have HQ : Hid (SqMade S t w (.returned (.slice (some ⟨w.heap.size, 0, none⟩) (t + 1) (t + 1))) wr) := ⟨rfl, hF⟩
              clear hF
              go_wp2_with fail
              go_ret
              exact HQ.out

end Go.Proofs.Ytbfgfeggiicmbaa
