/-
  Words and contracts that the proof leans on.
-/
import Derived.Test.YtokgabijjgndgaaM31
import Derived.Test.YtokgabijjgndgaaM27
import Derived.Test.YtokgabijjgndgaaM32
import Derived.Test.YtokgabijjgndgaaM22
import Derived.OrdersHeld
import Derived.Test.YtokgabijjgndgaaM29
import Derived.Test.YtokgabijjgndgaaM24
namespace Go.Proofs.Ytokgabijjgndgaa
open Go.RowKit

/-- The head of a round of Rows. -/
def RwRelc (a b : List Int) (W lo hi : Nat) (mv : Value) (w : World) (i : Value) (wr : World) : Prop :=
  ∃ k : Nat, k ≤ a.length ∧ i = .int .i64 (k : Int) ∧ WPart (w.heap.size + 1) W (a.length + 1) w.heap.size (k + 1) (rowsF b.length (alikeAt a b)) wr ∧ Msk lo hi b wr mv ∧ hi ≤ wr.heap.size ∧ Below w.heap.size w wr

set_option maxRecDepth 100000 in
set_option maxHeartbeats 3200000 in
theorem crows_any (A B : Option Addr) (n m c d : Nat) (a b : List Int) (w : World) (hn : a.length = n) (hm : b.length = m) (hb : n ≤ 1048575) (hb' : m ≤ 1048576) (h1 : Row w A (iv a)) (h2 : Row w B (iv b)) (wa : ∀ x ∈ a, (Lit.int .i64 x).wf = true) (wb : ∀ x ∈ b, (Lit.int .i64 x).wf = true) :
    Calls Try.prog 10 #[.slice A n c, .slice B m d] w (RwMade (wdsVc3 m) (n + 1) (rowsF m (alikeAt a b)) w) := by
  subst hn
  subst hm
  have hmx : Try.prog.follows .mixedOrders = true := by kernel_rfl
  obtain ⟨i0, hi, hz0, hz1, hz2⟩ := info_parts Try.infoRowW
  have hwm := wid_nat hb'
  have HNW : Hid (b.length ≤ 64 * wdsVc3 b.length) := by have := wds_wid b.length; rw [hwm] at this; exact this
  have hWl := wds_le b.length
  have HON := Lib.hid (fun w => ponesOK (b.length : Int) w (i64_small (by omega)))
  have HWB := Lib.hid hwm
  have H1 := Lib.hid h1
  have HWA := Lib.hid wa
  have HWBB := Lib.hid wb
  obtain ⟨W, hW⟩ : ∃ W, wdsVc3 b.length = W := ⟨_, rfl⟩
  have HOF := Lib.hid (fun lo hi mv x w hh hmm hs => of_anyMk4 lo hi b mv x w hb' hh hmm hs)
  have HRW := Lib.hid (fun P Q c d x y w => crow_any P Q W W c d x y (b.length : Int) w)
  rw [hW] at HNW hWl HON HOF HRW ⊢
  rw [hwm] at HON HRW
  clear hW hwm wa wb h1
  go_enter Try.func10, Try.ntmps10
  go_wp2_with (at_make; refine wpList_make_row _ rfl _ _ 25 rfl 22 i0 (.slice none 0 0) Try.underlying25 hi hz0 hz1 rfl .i64 .i64 (a.length + 1) rfl rfl (by rw [hz2]; omega) (by omega) ?_)
  have hP := WPart.start (lo := w.heap.size + 1) (W := W) (b := rowsF b.length (alikeAt a b)) w (a.length + 1)
  have hB0 : Below w.heap.size w (w.alloc (.cells (madeCells #[.slice none 0 0] (a.length + 1)) 22)) := (Below.refl _ _).alloc (Nat.le_refl _) _
  have hsz0 : (w.alloc (.cells (madeCells #[.slice none 0 0] (a.length + 1)) 22)).heap.size = w.heap.size + 1 := by simp
  generalize w.alloc (.cells (madeCells #[.slice none 0 0] (a.length + 1)) 22) = wa at *
  go_wp2_with fail
  refine (HON.out wa).mono ?_
  intro e w1 hmd
  obtain ⟨v, rfl, hv, hb1⟩ := madeV_open (b := rowsF b.length (alikeAt a b) 0) hmd (fun j => by
    show (decide (j < 64 * W) && (decide (j < b.length) && true)) = (decide (j < b.length) && true)
    by_cases h : j < b.length
    · rw [decide_eq_true (show j < 64 * W by have := HNW.out; omega), Bool.true_and]
    · rw [decide_eq_false h, Bool.false_and, Bool.and_false]) (lo := w.heap.size + 1) (by omega)
  obtain ⟨Av, cv, rfl⟩ := hv.form
  have hP1 := hP.below hb1
  obtain ⟨u0, hc0⟩ := hP1.cell (i := 0) (by omega)
  have hf0 := hP1.frozen 0
  have hP2 := hP1.put hv (by omega)
  have hB2 : Below w.heap.size w (w1.setCell ⟨w.heap.size, 0, none⟩ (.slice Av W cv)) := (hB0.trans (hb1.mono (by omega))).setCell (Nat.le_refl _) _
  clear hmd hP hP1 hb1 hB0 hv
  go_wp2_with fail
  clear hc0 hf0
  generalize w1.setCell ⟨w.heap.size, 0, none⟩ (.slice Av W cv) = w2 at *
  have h2' : Row w2 B (iv b) := h2.below hB2
  clear h2
  refine (new_any B b.length d b w2 rfl hb' h2' HWBB.out).mono ?_
  rintro e w3 ⟨mv, rfl, hM, hb3⟩
  have hP3 := hP2.below hb3
  have hB3 := below_go hB2 hb3
  obtain ⟨lo, hlo⟩ : ∃ lo, w2.heap.size = lo := ⟨_, rfl⟩
  obtain ⟨p, rfl⟩ := mask_ptr hM
  rw [hlo] at hM
  have HLO : Hid (w.heap.size < lo) := by show _ < _; rw [← hlo]; obtain ⟨F, h, _⟩ := hP2; exact h.lt
  obtain ⟨hx, hhx⟩ : ∃ hx, w3.heap.size = hx := ⟨_, rfl⟩
  rw [hhx] at hM
  have hsz4 : hx ≤ w3.heap.size := Nat.le_of_eq hhx.symm
  clear hb3 h2' hP2 hB2 hlo hhx
  go_wp2_with fail
  go_loopw [22] (fun i wr => RwRelc a b W lo hx (.pointer (some ⟨p, 0, none⟩)) w i wr) (fun i _ => a.length - (RowKit.intOf i).toNat)
  case atStart => exact ⟨0, Nat.zero_le _, rfl, hP3, hM, hsz4, hB3⟩
  case round =>
    clear hP3 hM hsz4 hB3 hsz0
    obtain ⟨k, hk, rfl, hP, hM, hsz, hB⟩ := hrel
    by_cases hlt : k < a.length
    · obtain ⟨ga, oa, rfl, hca⟩ := (H1.out.below hB).int hlt
      have HX : Hid (a[k]? = some a[k]) := List.getElem?_eq_getElem hlt
      have hwx := HWA.out a[k] (List.getElem_mem hlt)
      generalize a[k] = x at *
      obtain ⟨V, hcV, A', c', z, rfl, hc1, hc2, hz, wz, bz, rz, _⟩ := hP.get (by omega) (i := k) (by omega)
      go_wp2_with fail
      have hT : w.heap.size < wr.heap.size := by obtain ⟨F, h, _⟩ := hP; exact h.lt
      have HS0 : Hid (RwS w.heap.size k (.slice A' W c') wr.drew) := ⟨hcV, trivial⟩
      have hM1 : Msk lo hx b wr.drew (.pointer (some ⟨p, 0, none⟩)) := hM.keep fun _ _ _ => rfl
      have z1 : IntKind.i64.wrap ((k : Int) + 1) = (k : Int) + 1 := IntWalk.i64_in _ (by omega)
      have z2 : (k : Int) < (a.length : Int) + 1 := by omega
      have z3 : (k : Int) + 1 < (a.length : Int) + 1 := by omega
      have z4 : 0 ≤ (k : Int) + 1 := by omega
      have z5 : ((k : Int) + 1).toNat = k + 1 := by omega
      clear hca hcV
      refine wp_region_held (S := RwS w.heap.size k (.slice A' W c')) hmx ?_
      refine wpAnyH_take (i := 0) (v := ?v1) rfl (by kernel_rfl) (by kernel_rfl) (by kernel_rfl) (fun _ _ _ h => h) (.inl ⟨by kernel_rfl, ?y1⟩) HS0.out ?_
      case y1 =>
        rintro w' ⟨s0, _⟩
        go_simp
        try simp only [z1]
        first | done | with_reducible rfl | rfl
      try simp only [Act.put]
      refine wpAnyH_take (i := 1) (v := ?v2) rfl (by kernel_rfl) (by kernel_rfl) (by kernel_rfl) (fun _ _ _ h => h) (.inl ⟨by kernel_rfl, ?y2⟩) HS0.out ?_
      case y2 =>
        rintro w' ⟨s0, _⟩
        go_simp
        try simp only [z1]
        first | done | with_reducible rfl | rfl
      try simp only [Act.put]
      refine wpAnyH_take (i := 2) (v := ?v3) rfl (by kernel_rfl) (by kernel_rfl) (by kernel_rfl) (fun _ _ _ h => h) (.inl ⟨by kernel_rfl, ?y3⟩) HS0.out ?_
      case y3 =>
        rintro w' ⟨s0, _⟩
        go_simp
        try simp only [z1]
        first | done | with_reducible rfl | rfl
      try simp only [Act.put]
      refine wpAnyH_take (i := 3) (v := ?v4) rfl (by kernel_rfl) (by kernel_rfl) (by kernel_rfl) (fun _ _ _ h => h) (.inl ⟨by kernel_rfl, ?y4⟩) HS0.out ?_
      case y4 =>
        rintro w' ⟨s0, _⟩
        go_simp
        try simp only [z1]
        first | done | with_reducible rfl | rfl
      try simp only [Act.put]
      refine wpAnyH_take (i := 4) (v := ?v5) rfl (by kernel_rfl) (by kernel_rfl) (by kernel_rfl) (fun _ _ _ h => h) (.inl ⟨by kernel_rfl, ?y5⟩) HS0.out ?_
      case y5 =>
        rintro w' ⟨s0, _⟩
        go_simp
        try simp only [z1]
        first | done | with_reducible rfl | rfl
      try simp only [Act.put]
      refine wpAnyH_take (i := 5) (v := ?v6) rfl (by kernel_rfl) (by kernel_rfl) (by kernel_rfl) (fun _ _ _ h => h) (.inl ⟨by kernel_rfl, ?y6⟩) HS0.out ?_
      case y6 =>
        rintro w' ⟨s0, _⟩
        go_simp
        try simp only [z1]
        first | done | with_reducible rfl | rfl
      try simp only [Act.put]
      refine wpAnyH_take (i := 6) (v := ?v7) rfl (by kernel_rfl) (by kernel_rfl) (by kernel_rfl) (fun _ _ _ h => h) (.inl ⟨by kernel_rfl, ?y7⟩) HS0.out ?_
      case y7 =>
        rintro w' ⟨s0, _⟩
        go_simp
        try simp only [z1]
        first | done | with_reducible rfl | rfl
      try simp only [Act.put]
      refine wpAnyH_take (i := 7) (v := ?v8) rfl (by kernel_rfl) (by kernel_rfl) (by kernel_rfl) (fun _ _ _ h => h) (.inl ⟨by kernel_rfl, ?y8⟩) HS0.out ?_
      case y8 =>
        rintro w' ⟨s0, _⟩
        go_simp
        try simp only [z1]
        first | done | with_reducible rfl | rfl
      try simp only [Act.put]
      refine wpAnyH_take (i := 8) (v := ?v9) rfl (by kernel_rfl) (by kernel_rfl) (by kernel_rfl) (fun _ _ _ h => h) (.inl ⟨by kernel_rfl, ?y9⟩) HS0.out ?_
      case y9 =>
        rintro w' ⟨s0, _⟩
        go_simp
        try simp only [z1]
        first | done | with_reducible rfl | rfl
      try simp only [Act.put]
      refine wpAnyH_take (i := 10) (v := ?v10) rfl (by kernel_rfl) (by kernel_rfl) (by kernel_rfl) (fun _ _ _ h => h) (.inl ⟨by kernel_rfl, ?y10⟩) HS0.out ?_
      case y10 =>
        rintro w' ⟨s0, _⟩
        go_simp
        try simp only [z1]
        first | done | with_reducible rfl | rfl
      try simp only [Act.put]
      refine wpAnyH_take (i := 11) (v := ?v11) rfl (by kernel_rfl) (by kernel_rfl) (by kernel_rfl) (fun _ _ _ h => h) (.inl ⟨by kernel_rfl, ?y11⟩) HS0.out ?_
      case y11 =>
        rintro w' ⟨s0, _⟩
        go_simp
        try simp only [z1]
        first | done | with_reducible rfl | rfl
      try simp only [Act.put]
      refine held_one (i := 9) (by kernel_rfl) rfl (by kernel_rfl) ?_
      unfold Oper.wp
      go_simp
      refine (HOF.out lo hx _ x wr.drew hsz hM1 hwx).mono ?_
      intro e w5 hmd
      obtain ⟨mk, rfl, hmk, hb5⟩ := madeV_open (b := fun j => decide (j < 64 * W) && decide (b[j]? = some x)) hmd (fun _ => rfl) (Nat.le_refl _)
      have hP5 : WPart (w.heap.size + 1) W (a.length + 1) w.heap.size (k + 1) (rowsF b.length (alikeAt a b)) w5 := hP.drew.below hb5
      have hM5 := hM1.below hsz hb5
      have hB5 : Below w.heap.size w w5 := hB.drew.trans (hb5.mono (Nat.le_of_lt hT))
      have hsz5 : hx ≤ w5.heap.size := Nat.le_trans hsz hb5.size
      have hT5 : w.heap.size < w5.heap.size := Nat.lt_of_lt_of_le hT hb5.size
      have HS5 : Hid (RwS w.heap.size k (.slice A' W c') w5) := ⟨(hb5.cell (p := ⟨w.heap.size, k, none⟩) hT).trans HS0.out.1, trivial⟩
      have rz5 : Row w5 A' (uv z) := Row.below (w := wr.drew) rz hb5
      clear hmd hb5 hM1 hM hB hP HS0 rz hsz
      obtain ⟨Am, cm, u, rfl, hm1, hm2, hu, wu, bu, ru, _⟩ := hmk
      refine ⟨HS5.out, ?_⟩
      try simp only [Act.put]
      refine held_one (i := 12) (by kernel_rfl) rfl (by kernel_rfl) ?_
      unfold Oper.wp
      go_simp
      refine (HRW.out A' Am c' cm z u w5 hz hu hWl hWl hc1 hc2 (i64_small (by omega)) rz5 ru wz wu).mono ?_
      intro e w6 hmd
      obtain ⟨q, rfl, hq, hb6⟩ := madeV_open (b := rowsF b.length (alikeAt a b) (k + 1)) hmd (fun j => by
        rw [rowF_words HNW.out]
        exact rowF_congr (fun j _ => bz j) (fun j hj => by rw [bu j]; show (decide (j < 64 * W) && decide (b[j]? = some x)) = _; rw [decide_eq_true (show j < 64 * W by have := HNW.out; omega), Bool.true_and, mask_alike HX.out]) j) (lo := w.heap.size + 1) hT5
      obtain ⟨Aq, cq, rfl⟩ := hq.form
      have hP6 := hP5.below hb6
      obtain ⟨u6, hc6⟩ := hP6.cell (i := k + 1) (by omega)
      have hf6 := hP6.frozen (k + 1)
      have R : Hid (RwRelc a b W lo hx (.pointer (some ⟨p, 0, none⟩)) w (.int .i64 ((k + 1 : Nat) : Int)) (w6.setCell ⟨w.heap.size, k + 1, none⟩ (.slice Aq W cq))) := by
        have hM6 := hM5.below hsz5 hb6
        have hb7 : Below w5.heap.size w5 w6 := hb6
        have hh : lo ≤ hx := by obtain ⟨_, _, _, _, _, h, h', _⟩ := hM6; omega
        exact ⟨k + 1, hlt, rfl, hP6.put hq (by omega), mask_set hM6 HLO.out _, by simpa using Nat.le_trans hsz5 hb6.size, (hB5.trans (hb6.mono hB5.size)).setCell (Nat.le_refl _) _⟩
      have HS6 : Hid (RwS w.heap.size k (.slice A' W c') w6) := ⟨(hb6.cell (p := ⟨w.heap.size, k, none⟩) hT5).trans HS5.out.1, trivial⟩
      have HS7 : Hid (RwS w.heap.size k (.slice A' W c') (w6.setCell ⟨w.heap.size, k + 1, none⟩ (.slice Aq W cq))) := ⟨(World.cell?_setCell_other _ _ _ _ (fun e => by simp at e)).trans HS6.out.1, trivial⟩
      clear hmd hb6 hM5 hB5 hP5 HS5 rz5 ru hsz5 hq hP6
      refine ⟨HS6.out, ?_⟩
      try simp only [Act.put]
      refine wpAnyH_take (i := 13) (v := ?v12) rfl (by kernel_rfl) (by kernel_rfl) (by kernel_rfl) (fun _ _ _ h => h) (.inl ⟨by kernel_rfl, ?y12⟩) HS6.out ?_
      case y12 =>
        rintro w' ⟨s0, _⟩
        go_simp
        try simp only [z5]
        first | done | with_reducible rfl | rfl
      try simp only [Act.put]
      refine held_one (i := 14) (by kernel_rfl) rfl (by rfl) ?_
      unfold Oper.wp
      go_simp
      refine ⟨HS7.out, ?_⟩
      refine held_done (by kernel_rfl) ?_
      go_simp
      go_wp2_with fail
      go_roundw
      case rel => first | exact R.out | ((repeat apply Exists.intro); exact ⟨R.out, rfl⟩)
      case measure => simp [RowKit.intOf]; omega
    · obtain rfl : k = a.length := by omega
      have HF : Hid (RwMade W (a.length + 1) (rowsF b.length (alikeAt a b)) w (.returned (.slice (some ⟨w.heap.size, 0, none⟩) (a.length + 1) (a.length + 1))) wr) := ⟨_, _, rfl, Nat.le_refl _, by unfold maxLen; omega, hP.read, hB⟩
      clear hP hM hB hsz
      go_wp2_with fail
      go_ret
      exact HF.out

theorem px_zerosc (a b : List Int) (i : Nat) : ∀ N, cnt (fun j => !vB a b i j) N = px a b i N
  | 0 => by rw [px_zero_right]; rfl
  | N + 1 => by
    rw [cnt, px_zerosc a b i N]
    have h := px_h a b i N
    cases hv : vB a b i N with
    | true =>
      have : px a b i (N + 1) = px a b i N := by unfold vB at hv; exact of_decide_eq_true hv
      simp
      omega
    | false =>
      have := vB_no.1 hv
      simp
      omega
theorem ln_zerosc {a b : List Int} {W : Nat} {z q : List Nat} (hW : b.length ≤ 64 * W) (hz : ∀ j, bt z j = rowsF b.length (alikeAt a b) a.length j) (hq : ∀ j, bt q j = (decide (j < 64 * W) && (decide (j < b.length) && !bt z j))) : cnt (bt q) b.length = lcs a b := by
  have e : cnt (bt q) b.length = cnt (fun j => !vB a b a.length j) b.length := cnt_congr _ fun j hj => by
    rw [hq j, decide_eq_true hj, decide_eq_true (show j < 64 * W by omega), hz j, rows_are (x := a) (y := b) (fun _ _ _ => rfl) _ j hj]
    rfl
  rw [e, px_zerosc]
  unfold px
  rw [List.take_length, List.take_length]
/-- The head of a round of Len. -/
def LnRelc (a b : List Int) (W lo hx : Nat) (row mv : Value) (w : World) (i : Value) (wr : World) : Prop :=
  ∃ (k : Nat) (z : List Nat), k ≤ a.length ∧ i = .int .i64 (k : Int) ∧ z.length = W ∧ Wd z ∧ (∀ j, bt z j = rowsF b.length (alikeAt a b) k j) ∧ wr.ownsRow w.heap.size 24 1 row W (uv z) ∧ Msk lo hx b wr mv ∧ hx ≤ wr.heap.size ∧ Below w.heap.size w wr
set_option maxRecDepth 100000 in
set_option maxHeartbeats 3200000 in
theorem clen_any (A B : Option Addr) (n m c d : Nat) (a b : List Int) (w : World) (hn : a.length = n) (hm : b.length = m) (hb : n ≤ 1048576) (hb' : m ≤ 1048576) (h1 : Row w A (iv a)) (h2 : Row w B (iv b)) (wa : ∀ x ∈ a, (Lit.int .i64 x).wf = true) (wb : ∀ x ∈ b, (Lit.int .i64 x).wf = true) :
    Calls Try.prog 12 #[.slice A n c, .slice B m d] w fun e w' => e = .returned (.int .i64 (lcs a b : Nat)) ∧ Below w.heap.size w w' := by
  subst hn
  subst hm
  have hwm := wid_nat hb'
  have HNW : Hid (b.length ≤ 64 * wdsVc3 b.length) := by have := wds_wid b.length; rw [hwm] at this; exact this
  have hWl := wds_le b.length
  have HON := Lib.hid (fun w => ponesOK (b.length : Int) w (i64_small (by omega)))
  have HNT := Lib.hid (fun A c x w => pnot A (wdsVc3 b.length) c x (b.length : Int) w)
  have HCT := Lib.hid (fun A c x w => pcount A (wdsVc3 b.length) c x (b.length : Int) w)
  have H1 := Lib.hid h1
  have HWA := Lib.hid wa
  have HWBB := Lib.hid wb
  have HOF := Lib.hid (fun lo hi mv x w hh hmm hs => of_anyMk4 lo hi b mv x w hb' hh hmm hs)
  have HAD := Lib.hid (fun lo c row A x y v w hW => cadvance_any lo (wdsVc3 b.length) (wdsVc3 b.length) c row A x y v (b.length : Int) w hW rfl)
  obtain ⟨W, hW⟩ : ∃ W, wdsVc3 b.length = W := ⟨_, rfl⟩
  rw [hW] at HNW hWl HON HOF HAD HNT HCT
  rw [hwm] at HON HAD HNT HCT
  obtain ⟨L, hL⟩ : ∃ L, lcs a b = L := ⟨_, rfl⟩
  have HL := Lib.hid hL
  rw [hL]
  clear hW hwm wa wb h1 hL
  go_enter Try.func12, Try.ntmps12
  go_wp2_with fail
  refine (HON.out w).mono ?_
  rintro e w1 ⟨row, z0, rfl, hz0, wz0, bz0, own, hb1⟩
  rw [hz0] at own
  have hbits : ∀ j, bt z0 j = rowsF b.length (alikeAt a b) 0 j := fun j => by
    rw [bz0]
    show (decide (j < 64 * W) && (decide (j < b.length) && true)) = (decide (j < b.length) && true)
    by_cases h : j < b.length
    · rw [decide_eq_true (show j < 64 * W by have := HNW.out; omega), Bool.true_and]
    · rw [decide_eq_false h, Bool.false_and, Bool.and_false]
  obtain ⟨V, cV, rfl, hVc, hVm, _, _⟩ := own_slice own
  have h2' : Row w1 B (iv b) := h2.below hb1
  clear h2
  go_wp2_with fail
  refine (new_any B b.length d b w1 rfl hb' h2' HWBB.out).mono ?_
  rintro e w2 ⟨mv, rfl, hM, hb2⟩
  have hB2 := below_go hb1 hb2
  have hlt := own.lt
  have own2 := own_below own hb2 (Nat.le_refl _)
  obtain ⟨lo, hlo⟩ : ∃ lo, w1.heap.size = lo := ⟨_, rfl⟩
  obtain ⟨p, rfl⟩ := mask_ptr hM
  rw [hlo] at hM
  have HLO : Hid (∀ g, (Value.slice V W cV).ownBlock = some g → w.heap.size ≤ g ∧ g < lo) := fun g e => by rw [← hlo]; exact hlt g e
  obtain ⟨hx, hhx⟩ : ∃ hx, w2.heap.size = hx := ⟨_, rfl⟩
  rw [hhx] at hM
  have hsz4 : hx ≤ w2.heap.size := Nat.le_of_eq hhx.symm
  clear hb1 hb2 h2' hlo hhx hlt own bz0
  go_wp2_with fail
  go_loopw [16] (fun i wr => LnRelc a b W lo hx (.slice V W cV) (.pointer (some ⟨p, 0, none⟩)) w i wr) (fun i _ => a.length - (RowKit.intOf i).toNat)
  case atStart => exact ⟨0, z0, Nat.zero_le _, rfl, hz0, wz0, hbits, own2, hM, hsz4, hB2⟩
  case round =>
    clear hM hsz4 hB2 own2 hbits hz0 wz0
    obtain ⟨k, z, hk, rfl, hz, wz, bz, own, hM, hsz, hB⟩ := hrel
    by_cases hlt : k < a.length
    · obtain ⟨ga, oa, rfl, hca⟩ := (H1.out.below hB).int hlt
      have HX : Hid (a[k]? = some a[k]) := List.getElem?_eq_getElem hlt
      have hwx := HWA.out a[k] (List.getElem_mem hlt)
      generalize a[k] = x at *
      go_wp2_with fail
      refine (HOF.out lo hx _ x wr hsz hM hwx).mono ?_
      intro e w5 hmd
      obtain ⟨mk, rfl, hmk, hb5⟩ := madeV_open (b := fun j => decide (j < 64 * W) && decide (b[j]? = some x)) hmd (fun _ => rfl) (Nat.le_refl _)
      have hM5 := hM.below hsz hb5
      have hB5 : Below w.heap.size w w5 := below_go hB hb5
      have hsz5 : hx ≤ w5.heap.size := Nat.le_trans hsz hb5.size
      have own5 := own_below own hb5 (Nat.le_refl _)
      have hblt := own.lt
      clear hmd hb5 hM hB hsz own hca
      obtain ⟨Am, cm, u, rfl, hm1, hm2, hu, wu, bu, ru, hAm⟩ := hmk
      have hAd := HAD.out w.heap.size cm (.slice V W cV) Am z u (rowsF b.length (alikeAt a b) k) w5 hz hu hWl (i64_small (by omega)) wz wu (fun j => by rw [cutB_cut (fun j hj => rows_past k j hj), bz j]) own5 ru (fun _ q e e2 => by
        have := hAm q e
        have := (hblt q.block e2.symm).2
        omega)
      have HR : Hid (∀ w6 q, w5.grownBy w6 (Value.slice V W cV).ownBlock → q.length = W → Wd q → (∀ j, bt q j = (decide (j < 64 * W) && rowF b.length (rowsF b.length (alikeAt a b) k) (bt u) j)) → w6.ownsRow w.heap.size 24 1 (.slice V W cV) W (uv q) → LnRelc a b W lo hx (.slice V W cV) (.pointer (some ⟨p, 0, none⟩)) w (.int .i64 ((k + 1 : Nat) : Int)) w6) := fun w6 q hg hq wq bq own6 =>
        ⟨k + 1, q, hlt, rfl, hq, wq, fun j => by
          rw [bq j, rowF_words HNW.out]
          exact rowF_congr (fun _ _ => rfl) (fun j hj => by rw [bu j]; show (decide (j < 64 * W) && decide (b[j]? = some x)) = _; rw [decide_eq_true (show j < 64 * W by have := HNW.out; omega), Bool.true_and, mask_alike HX.out]) j,
          own6, mask_grown hM5 hsz5 hg (fun g e => (HLO.out g e).2), Nat.le_trans hsz5 hg.size, hB5.grown hg hB5.size (fun g e => (HLO.out g e).1)⟩
      clear hM5 hB5 hsz5 own5 ru bu wu bz wz hz hblt hAm
      go_wp2_with fail
      refine hAd.mono ?_
      rintro e w6 ⟨rfl, hg, q, hq, wq, bq, own6⟩
      have R := Lib.hid (HR.out w6 q hg hq wq bq own6)
      clear hg hq wq bq own6 HR hAd
      go_wp2_with fail
      go_roundw
      case rel => first | exact R.out | ((repeat apply Exists.intro); exact ⟨R.out, rfl⟩)
      case measure => simp [RowKit.intOf]; omega
    · obtain rfl : k = a.length := by omega
      have hr : Row wr V (uv z) := Row.of_own own
      have hNt := HNT.out V cV z wr hz hWl hVc hVm (i64_small (by omega)) hr wz
      clear own hM hsz hr
      go_wp2_with fail
      refine hNt.mono ?_
      rintro e w5 ⟨v, q, rfl, hq, wq, bq, own, hb5⟩
      rw [hq] at own
      obtain ⟨Q, cQ, rfl, hQ1, hQ2, hrq, _⟩ := own_slice own
      have hCt := HCT.out Q cQ q w5 hq hWl hQ1 hQ2 (i64_small (by omega)) hrq wq
      rw [ln_zerosc HNW.out bz bq, HL.out] at hCt
      have hB5 := below_go hB hb5
      clear own hrq hq wq bq bz wz hz hB hb5 hNt
      go_wp2_with fail
      refine hCt.mono ?_
      rintro e w6 ⟨rfl, hb6⟩
      have HF := Lib.hid (below_go hB5 hb6)
      clear hB5 hb6 hCt
      go_wp2_with fail
      go_ret
      exact ⟨rfl, HF.out⟩

end Go.Proofs.Ytokgabijjgndgaa

namespace Go.Proofs.Ytokgabijjgndgaa
open Go.RowKit

set_option maxRecDepth 100000 in
set_option maxHeartbeats 1600000 in
theorem awake21 (w : World) : Calls Try.prog 11 #[] w (Yes w) := by
  go_enter Try.func11, Try.ntmps11
  go_wp2_with fail
  refine (crow_any _ _ 1 1 1 1 [3] [2] (2) _ rfl rfl (by decide) (by decide) (by decide) (by decide) (i64_small (by decide)) ((row_lit (uv [3]) 24 (by simp)).alloc _) (row_lit (uv [2]) 24 (by simp)) (wd_all (by decide)) (wd_all (by decide))).mono ?_
  intro e w1 hv
  rw [show wdsVc3 (2) = 1 by decide] at hv
  obtain ⟨A_x, c_x, x_x, rfl, h1, _, _, h2, h3, r_x, hb⟩ := madeV_words hv
  clear hv
  have B := below_go (below_al (below_al (Below.refl _ _) _) _) hb
  have bb := B
  clear B hb
  have ex : x_x = [1] := made_is [1] h1 h2 h3 rfl (wd_all (by decide)) (by decide +kernel)
  subst ex
  clear h1 h2 h3
  go_wp2_with fail
  refine (crows_any _ _ 1 2 1 2 [7] [5, 7] _ rfl rfl (by decide) (by decide) ((row_lit (iv [7]) 3 (by simp)).alloc _) (row_lit (iv [5, 7]) 3 (by simp)) (by decide) (by decide)).mono ?_
  intro e w2 hv
  rw [show wdsVc3 ((2 : Nat) : Int) = 1 by decide] at hv
  obtain ⟨A_r, c_r, rfl, _, _, r_r, hb⟩ := hv
  have B := below_go (below_al (below_al (Below.refl _ _) _) _) hb
  replace r_x := r_x.below B
  replace bb := below_go bb B
  clear B hb
  obtain ⟨g_x, o_x, rfl, q_x0⟩ := r_x.word (k := 0) (by decide)
  simp only [List.getElem_cons_zero, Nat.add_zero] at q_x0
  obtain ⟨g_r, o_r, A_r0, c_r0, x_r0, rfl, q_r0, _, _, h1, h2, h3, r_r0⟩ := r_r.cell (k := 0) (by decide)
  simp only [Nat.add_zero] at q_r0
  have ex : x_r0 = [3] := words_is (W := 1) [3] h1 h2 h3 rfl (wd_all (by decide)) (by decide +kernel)
  subst ex
  clear h1 h2 h3
  obtain ⟨g_r0, o_r0, rfl, q_r00⟩ := r_r0.word (k := 0) (by decide)
  simp only [List.getElem_cons_zero, Nat.add_zero] at q_r00
  obtain ⟨g1, o1, A_r1, c_r1, x_r1, e1, q_r1, _, _, h1, h2, h3, r_r1⟩ := r_r.cell (k := 1) (by decide)
  cases e1
  have ex : x_r1 = [1] := words_is (W := 1) [1] h1 h2 h3 rfl (wd_all (by decide)) (by decide +kernel)
  subst ex
  clear h1 h2 h3
  obtain ⟨g_r1, o_r1, rfl, q_r10⟩ := r_r1.word (k := 0) (by decide)
  simp only [List.getElem_cons_zero, Nat.add_zero] at q_r10
  clear r_x
  clear r_r
  clear r_r0 r_r1
  go_wp2_with fail
  refine (clen_any _ _ 1 2 _ _ [7] [5, 7] _ rfl rfl (by decide) (by decide) ((row_lit (iv [7]) 3 (by simp)).alloc _) (row_lit (iv [5, 7]) 3 (by simp)) (by decide) (by decide)).mono ?_
  rintro e w3 ⟨rfl, hb⟩
  have B := below_go (below_al (below_al (Below.refl _ _) _) _) hb
  replace bb := below_go bb B
  clear B hb
  rw [show lcs [7] [5, 7] = 1 by decide +kernel]
  go_wp2_with fail
  refine (csteps_any (3) (65) _).mono ?_
  rintro e w4 ⟨rfl, e0⟩
  have hb := below_same e0
  clear e0
  have B := below_go (Below.refl _ _) hb
  replace bb := below_go bb B
  clear B hb
  rw [show stepsW (3) (65) = 6 by decide]
  go_wp2_with fail
  go_ret
  exact Yes.of bb

end Go.Proofs.Ytokgabijjgndgaa
