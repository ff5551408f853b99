/-
  Words and contracts that the proof leans on.
-/
import Derived.Test.YtdedmmeefffpkaaM18
import Derived.Test.YtdedmmeefffpkaaM19
import Derived.BigRegion
import Derived.Deep.DeepCutAuto
namespace Go.Proofs.Ytdedmmeefffpkaa
open Go.RowKit

theorem sqN_le (t eq top left : Nat) : ∀ r c, sqN t eq top left r c ≤ r + c
  | 0, 0 => by rw [sqN_top]; exact Nat.le_refl _
  | r, c + 1 => by have := sqN_le t eq top left r c; have := sqN_h t eq top left r c; omega
  | r + 1, 0 => by have := sqN_le t eq top left r 0; have := sqN_v t eq top left r 0; omega
termination_by r c => (r, c)
theorem and_bitN (x k : Nat) : bits .and .i64 ((x : Int) / 2 ^ k) 1 = (bitN x k : Nat) := by
  rw [and_one_i64]
  unfold bitN
  simp

/-- Sixteen numbers in memory. -/
def FB (w : World) (P : Nat) (g : Nat → Int) : Prop := w.rowIs P 90 16 (fun i => .int .i64 (g i))
/-- Of a table the told places are as they should be; the variable of the result lies ahead of it. -/
def FlR (S : Nat → Nat → Nat) (t : Nat) (K : Nat → Nat → Prop) (w wr : World) : Prop :=
  (∃ g, FB wr (w.heap.size + 1) g ∧ ∀ r c, r ≤ t → c ≤ t → K r c → g (4 * r + c) = (S r c : Int)) ∧ FB wr w.heap.size (fun _ => 0) ∧ Below w.heap.size w wr
theorem FlR.weak {S : Nat → Nat → Nat} {t : Nat} {K K' : Nat → Nat → Prop} {w wr : World} (h : FlR S t K w wr) (hk : ∀ r c, r ≤ t → c ≤ t → K' r c → K r c) : FlR S t K' w wr := by
  obtain ⟨⟨g, h1, h2⟩, h3, h4⟩ := h
  exact ⟨⟨g, h1, fun r c a b k => h2 r c a b (hk r c a b k)⟩, h3, h4⟩
theorem FlR.drew {S : Nat → Nat → Nat} {t : Nat} {K : Nat → Nat → Prop} {w wr : World} (h : FlR S t K w wr) : FlR S t K w wr.drew := by
  obtain ⟨⟨g, h1, h2⟩, h3, h4⟩ := h
  exact ⟨⟨g, h1, h2⟩, h3, h4.drew⟩
theorem FlR.cell {S : Nat → Nat → Nat} {t : Nat} {K : Nat → Nat → Prop} {w wr : World} (h : FlR S t K w wr) (ht : t ≤ 3) {r c : Nat} (hr : r ≤ t) (hc : c ≤ t) (hk : K r c) : wr.cell? ⟨w.heap.size + 1, 4 * r + c, none⟩ = some (.int .i64 (S r c : Int)) := by
  obtain ⟨⟨g, h1, h2⟩, h3, h4⟩ := h
  rw [World.rowIs.cell h1 (by omega), h2 r c hr hc hk]
theorem FlR.any {S : Nat → Nat → Nat} {t : Nat} {K : Nat → Nat → Prop} {w wr : World} (h : FlR S t K w wr) {i : Nat} (hi : i < 16) : ∃ v, wr.cell? ⟨w.heap.size + 1, i, none⟩ = some v := by
  obtain ⟨⟨g, h1, h2⟩, h3, h4⟩ := h
  exact ⟨_, World.rowIs.cell h1 hi⟩
theorem FlR.frozen {S : Nat → Nat → Nat} {t : Nat} {K : Nat → Nat → Prop} {w wr : World} (h : FlR S t K w wr) (i : Nat) : wr.frozen? ⟨w.heap.size + 1, i, none⟩ = false := by
  obtain ⟨⟨g, h1, h2⟩, h3, h4⟩ := h
  exact World.rowIs.frozen h1 i
theorem FlR.put {S : Nat → Nat → Nat} {t : Nat} {K K' : Nat → Nat → Prop} {w wr : World} (h : FlR S t K w wr) (ht : t ≤ 3) {r c i : Nat} {v : Int} (hr : r ≤ t) (hc : c ≤ t) (hi : i = 4 * r + c) (hv : v = (S r c : Int)) (hk : ∀ r' c', r' ≤ t → c' ≤ t → K' r' c' → K r' c' ∨ (r' = r ∧ c' = c)) : FlR S t K' w (wr.setCell ⟨w.heap.size + 1, i, none⟩ (.int .i64 v)) := by
  subst hi
  subst hv
  obtain ⟨⟨g, h1, h2⟩, h3, h4⟩ := h
  refine ⟨⟨fun j => if j = 4 * r + c then (S r c : Int) else g j, World.rowIs.congr (World.rowIs.set h1 (4 * r + c) _) fun j _ => ?_, fun r' c' hr' hc' hk' => ?_⟩, World.rowIs.setOther h3 (by show w.heap.size ≠ w.heap.size + 1; omega) _, h4.setCell (by show _ ≤ w.heap.size + 1; omega) _⟩
  · by_cases e : j = 4 * r + c
    · simp [e]
    · simp [e]
  · rcases hk r' c' hr' hc' hk' with hk'' | ⟨rfl, rfl⟩
    · by_cases e : 4 * r' + c' = 4 * r + c
      · have e1 : r' = r := by omega
        have e2 : c' = c := by omega
        simp [e1, e2]
      · simp only [if_neg e]
        exact h2 r' c' hr' hc' hk''
    · simp

def FlA (k1 k2 : Nat) (r c : Nat) : Prop := r = 0 ∧ c ≤ k1 ∨ c = 0 ∧ r ≤ k2
def FlB (R C : Nat) (r c : Nat) : Prop := r = 0 ∨ c = 0 ∨ r ≤ R ∨ r = R + 1 ∧ c ≤ C
theorem flr_start (S : Nat → Nat → Nat) (t : Nat) (w : World) (h0 : S 0 0 = 0) (z : Array Value) (hz : z = Array.replicate 16 (.int .i64 0)) : FlR S t (FlA 0 0) w ((w.alloc (.cells z 90)).alloc (.cells z 90)) := by
  subst hz
  have hc : ∀ i, i < (Array.replicate 16 (Value.int .i64 0)).size → (Array.replicate 16 (Value.int .i64 0))[i]? = some (Value.int .i64 ((fun _ => 0 : Nat → Int) i)) := fun i hi => by
    rw [Array.getElem?_eq_getElem hi]
    simp
  have h1 := World.rowIs_alloc w (Array.replicate 16 (.int .i64 0)) 90 _ hc
  have h2 := World.rowIs_alloc (w.alloc (.cells (Array.replicate 16 (.int .i64 0)) 90)) (Array.replicate 16 (.int .i64 0)) 90 _ hc
  refine ⟨⟨fun _ => 0, ?_, fun r c _ _ hk => ?_⟩, World.rowIs.alloc h1 _, ((Below.refl _ _).alloc (Nat.le_refl _) _).alloc (by simp) _⟩
  · unfold FB
    simpa using h2
  · have : r = 0 ∧ c = 0 := by unfold FlA at hk; omega
    obtain ⟨rfl, rfl⟩ := this
    simp [h0]

/-- What fill leaves. -/
def FlMade (S : Nat → Nat → Nat) (t : Nat) (w : World) (e : Ending) (w' : World) : Prop :=
  ∃ cs : Array Value, e = .returned (.agg cs) ∧ cs.size = 16 ∧ cs.all (·.oneCell') = true ∧ (∀ r c, r ≤ t → c ≤ t → cs[4 * r + c]? = some (.int .i64 (S r c : Int))) ∧ Below w.heap.size w w'

theorem sq_top (t eq top left k : Nat) : sqN t eq top left 0 (k + 1) = sqN t eq top left 0 k + bitN top k := by rw [sqN_top, sqN_top, sumN]
theorem sq_left (t eq top left k : Nat) : sqN t eq top left (k + 1) 0 = sqN t eq top left k 0 + bitN left k := by rw [sqN_left, sqN_left, sumN]
theorem sq_in (t eq top left r c : Nat) : sqN t eq top left (r + 1) (c + 1) = if bitN eq (r * t + c) = 1 then sqN t eq top left r c + 1 else max (sqN t eq top left r (c + 1)) (sqN t eq top left (r + 1) c) := by
  unfold sqN
  rw [sq_rc]
  simp

theorem Try.sizeTab : (Try.prog.info? 90).map (·.size) = some 16 := by kernel_rfl
theorem fl_end {S : Nat → Nat → Nat} {t : Nat} {w wr : World} (h : FlR S t (FlB t 0) w wr) (ht : t ≤ 3) : ∃ cs old : Array Value, wr.heap[w.heap.size + 1]? = some (.cells cs 90 (0, 0)) ∧ wr.heap[w.heap.size]? = some (.cells old 90 (0, 0)) ∧ cs.size = 16 ∧ old.size = 16 ∧ cs.all (·.oneCell') = true ∧ (∀ r c, r ≤ t → c ≤ t → cs[4 * r + c]? = some (.int .i64 (S r c : Int))) ∧ Below w.heap.size w wr := by
  obtain ⟨⟨g, ⟨cs, a1, a2, a3⟩, h2⟩, ⟨old, b1, b2, _⟩, h4⟩ := h
  refine ⟨cs, old, a1, b1, a2, b2, ?_, fun r c hr hc => ?_, h4⟩
  · rw [Array.all_eq_true]
    intro i hi
    have := a3 i (by omega)
    rw [Array.getElem?_eq_getElem hi] at this
    injection this with this
    rw [this]
    rfl
  · rw [a3 _ (by omega)]
    show some (Value.int .i64 (g (4 * r + c))) = _
    rw [h2 r c hr hc (by unfold FlB; omega)]
theorem fill_end {fn : Func} {R : Ending → World → Prop} {a : Act} {W : World} {P : Nat} {cs : Array Value} (h : fn.results = #[.cell 8 90]) (hp : a.tmps.getD 8 undef = .pointer (some ⟨P, 0, none⟩)) (hd : a.defers = []) (hg : W.heap[P]? = some (.cells cs 90 (0, 0))) (hc : cs.size = 16) (hR : R (.returned (.agg cs)) W) : bodyPost Try.prog fn R .ret a W :=
  bodyPost_ret (results_cell_row h _ _ P _ cs _ _ hp hg Try.underlying90 rfl (by rw [hc]; exact Try.sizeTab)) hd hR

set_option maxRecDepth 100000 in
set_option maxHeartbeats 1600000 in
theorem fill_any (t eq top left : Nat) (w : World) (ht : 1 ≤ t ∧ t ≤ 3) :
    Calls Try.prog 45 #[.int .i64 (t : Int), .int .i64 (eq : Int), .int .i64 (top : Int), .int .i64 (left : Int)] w (FlMade (sqN t eq top left) t w) := by
  have HT := Lib.hid (sq_top t eq top left)
  have HL := Lib.hid (sq_left t eq top left)
  have HI := Lib.hid (sq_in t eq top left)
  have HB := Lib.hid (sqN_le t eq top left)
  have HO := Lib.hid (fun z => flr_start (sqN t eq top left) t w sq_00 z)
  generalize sqN t eq top left = S at *
  go_enter Try.func45, Try.ntmps45
  go_wp2_with fail
  go_loopw [14] (fun i wr => ∃ k : Nat, k ≤ t ∧ i = .int .i64 (k : Int) ∧ FlR S t (FlA k k) w wr) (fun i _ => t - (intOf i).toNat)
  case atStart => exact ⟨0, Nat.zero_le _, rfl, HO.out _ rfl⟩
  case round =>
    clear HO
    obtain ⟨k, hk, rfl, hF⟩ := hrel
    by_cases hlt : k < t
    · have c1 := hF.cell ht.2 (r := 0) (c := k) (Nat.zero_le _) hk (.inl ⟨rfl, Nat.le_refl _⟩)
      obtain ⟨v2, c2⟩ := hF.any (i := k + 1) (by omega)
      have f2 := hF.frozen (k + 1)
      rw [show 4 * 0 + k = k by omega] at c1
      have e1 := and_bitN top k
      have b1 := bitN_le top k
      have s1 := HB.out 0 k
      have HV := HT.out k
      generalize bitN top k = bk at *
      generalize S 0 k = s at *
      have R := FlR.drew (FlR.put (K' := FlA (k + 1) k) (r := 0) (c := k + 1) (i := k + 1) (v := (s : Int) + (bk : Int)) hF ht.2 (Nat.zero_le _) hlt (by omega) (by rw [HV]; omega) (fun r' c' _ _ h => by unfold FlA at h ⊢; omega))
      clear hF HV
      have HR := Lib.hid R
      clear R
      go_wp2_with fail
      go_region
      have hF := HR.out
      clear HR c1 c2 f2 e1 b1 s1
      generalize (wr.setCell _ _).drew = wy at *
      have c1 := hF.cell ht.2 (r := k) (c := 0) hk (Nat.zero_le _) (.inr ⟨rfl, Nat.le_refl _⟩)
      obtain ⟨v2, c2⟩ := hF.any (i := (k + 1) * 4) (by omega)
      have f2 := hF.frozen ((k + 1) * 4)
      rw [show 4 * k + 0 = k * 4 by omega] at c1
      have e1 := and_bitN left k
      have b1 := bitN_le left k
      have s1 := HB.out k 0
      have HV := HL.out k
      generalize bitN left k = bl at *
      generalize S k 0 = s' at *
      have R := FlR.drew (FlR.put (K' := FlA (k + 1) (k + 1)) (r := k + 1) (c := 0) (i := (k + 1) * 4) (v := (s' : Int) + (bl : Int)) hF ht.2 hlt (Nat.zero_le _) (by omega) (by rw [HV]; omega) (fun r' c' _ _ h => by unfold FlA at h ⊢; omega))
      clear hF HV
      have HR := Lib.hid R
      clear R
      go_wp2_with fail
      go_region
      have hF := HR.out
      clear HR c1 c2 f2 e1 b1 s1
      generalize (wy.setCell _ _).drew = wz at *
      go_wp2_with fail
      go_roundw
      case rel => exact ⟨k + 1, hlt, by go_num, hF⟩
      case measure => simp [intOf]; omega
    · obtain rfl : k = t := by omega
      have hF0 := hF.weak (K' := FlB 0 0) (fun r c a b h => by unfold FlA; unfold FlB at h; omega)
      clear hF
      go_wp2_with fail
      go_loopw [45] (fun i wr => ∃ r : Nat, r ≤ k ∧ i = .int .i64 (r : Int) ∧ FlR S k (FlB r 0) w wr) (fun i _ => k - (intOf i).toNat)
      case atStart => exact ⟨0, Nat.zero_le _, rfl, hF0⟩
      case round =>
        clear hF0
        obtain ⟨r, hr, rfl, hF⟩ := hrel
        by_cases hrt : r < k
        · go_wp2_with fail
          go_loopw [49] (fun i wr => ∃ c : Nat, c ≤ k ∧ i = .int .i64 (c : Int) ∧ FlR S k (FlB r c) w wr) (fun i _ => k - (intOf i).toNat)
          case atStart => exact ⟨0, Nat.zero_le _, rfl, hF⟩
          case round =>
            clear hF
            obtain ⟨c, hc, rfl, hF⟩ := hrel
            by_cases hct : c < k
            · obtain ⟨X, hX⟩ : ∃ X, r * k = X := ⟨_, rfl⟩
              have hX6 : X ≤ 6 := by rw [← hX]; exact Nat.mul_le_mul (show r ≤ 2 by omega) ht.2
              have e1 : (r : Int) * (k : Int) = (X : Int) := by rw [← hX]; simp
              have e2 := and_bitN eq (X + c)
              have b1 := bitN_le eq (X + c)
              have HV := HI.out r c
              rw [hX] at HV
              have c1 := hF.cell ht.2 (r := r) (c := c) (by omega) (by omega) (by unfold FlB; omega)
              have c2 := hF.cell ht.2 (r := r) (c := c + 1) (by omega) (by omega) (by unfold FlB; omega)
              have c3 := hF.cell ht.2 (r := r + 1) (c := c) (by omega) (by omega) (by unfold FlB; omega)
              have c4 := hF.any (i := (r + 1) * 4 + (c + 1)) (by omega)
              have f4 := hF.frozen ((r + 1) * 4 + (c + 1))
              rw [Nat.mul_comm 4 r] at c1 c2
              rw [Nat.mul_comm 4 (r + 1)] at c3
              obtain ⟨v4, c4⟩ := c4
              have s1 := HB.out r c
              have s2 := HB.out r (c + 1)
              have s3 := HB.out (r + 1) c
              have HR : Hid (∀ v : Int, v = (S (r + 1) (c + 1) : Int) → FlR S k (FlB r (c + 1)) w (wr.setCell ⟨w.heap.size + 1, (r + 1) * 4 + (c + 1), none⟩ (.int .i64 v)).drew) := fun v hv =>
                FlR.drew (FlR.put (K' := FlB r (c + 1)) (r := r + 1) (c := c + 1) (i := (r + 1) * 4 + (c + 1)) (v := v) hF ht.2 hrt hct (by omega) hv (fun r' c' _ _ h => by unfold FlB at h ⊢; omega))
              generalize S r c = A at *
              generalize S r (c + 1) = B at *
              generalize S (r + 1) c = C at *
              generalize S (r + 1) (c + 1) = D at *
              clear hF
              generalize bitN eq (X + c) = bb at *
              clear hX
              rcases (show bb = 1 ∨ bb = 0 by omega) with rfl | rfl
              · rw [if_pos rfl] at HV
                have HR := Lib.hid (HR.out ((A : Int) + 1) (by rw [HV]; omega))
                clear HV
                go_wp2_with fail
                go_region
                have hF := HR.out
                clear HR c1 c2 c3 c4 f4 e2 s1 s2 s3
                generalize (wr.setCell _ _).drew = wz at *
                go_wp2_with fail
                go_roundw
                case rel => exact ⟨c + 1, hct, by go_num, hF⟩
                case measure => simp [intOf]; omega
              · rw [if_neg (by decide)] at HV
                by_cases hBC : B < C
                · have HR := Lib.hid (HR.out (C : Int) (by rw [HV]; omega))
                  clear HV
                  go_wp2_with fail
                  go_region
                  have hF := HR.out
                  clear HR c1 c2 c3 c4 f4 e2 s1 s2 s3
                  generalize (wr.setCell _ _).drew = wz at *
                  go_wp2_with fail
                  go_roundw
                  case rel => exact ⟨c + 1, hct, by go_num, hF⟩
                  case measure => simp [intOf]; omega
                · have HR := Lib.hid (HR.out (B : Int) (by rw [HV]; omega))
                  clear HV
                  go_wp2_with fail
                  go_region
                  have hF := HR.out
                  clear HR c1 c2 c3 c4 f4 e2 s1 s2 s3
                  generalize (wr.setCell _ _).drew = wz at *
                  go_wp2_with fail
                  go_roundw
                  case rel => exact ⟨c + 1, hct, by go_num, hF⟩
                  case measure => simp [intOf]; omega
            · have hF1 := hF.weak (K' := FlB (r + 1) 0) (fun r' c' a b h => by unfold FlB at h ⊢; omega)
              clear hF
              go_wp2_with fail
              go_roundw
              case rel => exact ⟨r + 1, hrt, by go_num, hF1⟩
              case measure => simp [intOf]; omega
        · obtain rfl : r = k := by omega
          obtain ⟨cs, old, g1, g2, g3, g4, g5, g6, g7⟩ := fl_end hF ht.2
          have G1 := Lib.hid g1
          have G2 := Lib.hid g2
          have G3 : Hid ((Try.prog.info? 90).map (·.size) = some cs.size) := by show _ = _; rw [g3]; exact Try.sizeTab
          have G4 : Hid (old.size = cs.size) := by show _ = _; rw [g3, g4]
          have G5 := Lib.hid g5
          have G6 := Lib.hid g3
          have HQ : Hid (FlMade S r w (.returned (.agg cs)) (wr.setRow w.heap.size cs)) := ⟨cs, rfl, g3, g5, g6, below_setRow g7 (Nat.le_refl _) cs⟩
          have HG := Lib.hid (setRow_heap wr w.heap.size old cs 90 (0, 0) g2)
          clear g1 g2 g3 g4 g5 g6 g7 hF
          go_upto_region 19 with (fail)
          go_wp2_with (first | (with_reducible refine wpList_load_row rfl 90 (.tmp 9) rfl (w.heap.size + 1) rfl 90 cs (0, 0) _ G1.out Try.underlying90 rfl G3.out ?_) | (with_reducible refine wpList_plain rfl fun _ hK => wp_store_row 90 (.tmp 8) (.tmp 94) rfl w.heap.size cs rfl rfl 90 old G2.out G3.out G4.out G5.out (hK _ _ ?_)))
          exact fill_end rfl rfl rfl HG.out G6.out HQ.out

end Go.Proofs.Ytdedmmeefffpkaa
