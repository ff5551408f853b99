/-
  Words and contracts that the proof leans on.
-/
import Derived.Test.YtncbhnmhaoblaaaM14
import Derived.Test.YtncbhnmhaoblaaaM28
import Derived.Test.YtncbhnmhaoblaaaM23
import Derived.OrdersHeld
namespace Go.Proofs.Ytncbhnmhaoblaaa
open Go.RowKit

/-- A function that works out the next row. -/
def RowOK (F : Nat) : Prop := ∀ (A B : Option Addr) (n k c d : Nat) (x y : List Nat) (m : Int) (w : World), x.length = n → y.length = k → n ≤ 16384 → k ≤ 16384 → n ≤ c → c ≤ maxLen → I64 m → Row w A (uv x) → Row w B (uv y) → Wd x → Wd y →
  Calls Try.prog F #[.slice A n c, .slice B k d, .int .i64 m] w (MadeV (wdsVc3 m) (rowF (wid m) (bt x) (bt y)) w)

section
variable (F : Nat) (A : Option Addr) (n c : Nat) (B : Option Addr) (m d p : Nat) (e : Int)
/-- A table as a value. -/
def tbV : Value := .agg #[.func (.func F) #[] #[], .slice A n c, .slice B m d, .pointer (some ⟨p, 0, none⟩), .int .i64 e]
def tbC : Nat → Value
  | 0 => .func (.func F) #[] #[]
  | 1 => .slice A n c
  | 2 => .slice B m d
  | 3 => .pointer (some ⟨p, 0, none⟩)
  | _ => .int .i64 e
/-- A variable that is a table. -/
def TbB (w : World) (P : Nat) : Prop := w.rowIs P 50 5 (tbC F A n c B m d p e)
theorem tb_new (w : World) : TbB F A n c B m d p e (w.alloc (.cells #[.func (.func F) #[] #[], .slice A n c, .slice B m d, .pointer (some ⟨p, 0, none⟩), .int .i64 e] 50)) w.heap.size := by
  refine World.rowIs_alloc w _ _ _ fun i hi => ?_
  have : i = 0 ∨ i = 1 ∨ i = 2 ∨ i = 3 ∨ i = 4 := by simp at hi; omega
  rcases this with rfl | rfl | rfl | rfl | rfl <;> rfl
end
section
variable {F : Nat} {A : Option Addr} {n c : Nat} {B : Option Addr} {m d p : Nat} {e : Int} {w w' : World} {P : Nat}
theorem TbB.cells (h : TbB F A n c B m d p e w P) : w.cell? ⟨P, 0, none⟩ = some (.func (.func F) #[] #[]) ∧ w.cell? ⟨P, 1, none⟩ = some (.slice A n c) ∧ w.cell? ⟨P, 2, none⟩ = some (.slice B m d) ∧ w.cell? ⟨P, 3, none⟩ = some (.pointer (some ⟨p, 0, none⟩)) ∧ w.cell? ⟨P, 4, none⟩ = some (.int .i64 e) :=
  ⟨World.rowIs.cell h (by omega), World.rowIs.cell h (by omega), World.rowIs.cell h (by omega), World.rowIs.cell h (by omega), World.rowIs.cell h (by omega)⟩
theorem TbB.below (h : TbB F A n c B m d p e w P) (hb : Below w.heap.size w w') : TbB F A n c B m d p e w' P := World.rowIs.of_block h (hb.block _ (World.rowIs.lt h))
theorem TbB.lt (h : TbB F A n c B m d p e w P) : P < w.heap.size := World.rowIs.lt h
theorem TbB.other (h : TbB F A n c B m d p e w P) {Q i : Nat} (hne : P ≠ Q) (v : Value) : TbB F A n c B m d p e (w.setCell ⟨Q, i, none⟩ v) P := World.rowIs.of_block h (heap_setCell_other _ _ _ _ (fun e => hne e))
end

/-- What a round of follow reads. -/
def FlS (P F : Nat) (B : Option Addr) (m d p : Nat) (w : World) : Prop := w.cell? ⟨P, 0, none⟩ = some (.func (.func F) #[] #[]) ∧ w.cell? ⟨P, 3, none⟩ = some (.pointer (some ⟨p, 0, none⟩)) ∧ w.cell? ⟨P, 2, none⟩ = some (.slice B m d)
/-- What follow leaves: the row behind. -/
def FlMadeWkD (W : Nat) (b : Nat → Bool) (w : World) (e : Ending) (w' : World) : Prop := ∃ v, e = .returned v ∧ RdW w.heap.size W b w' v ∧ Below w.heap.size w w'

set_option maxRecDepth 100000 in
set_option maxHeartbeats 3200000 in
theorem follow_anyWkD (F : Nat) (eg : ∀ args w, (callFunc F args).run Try.prog w = .ok (.enter F args) w) (hF : RowOK F) (A B : Option Addr) (n m c d p W lo lv hi : Nat) (e x : Int) (b : List Int) (g : Nat → Bool) (v : Value) (w : World) (hm : b.length = m) (hb : m ≤ 1048576) (hW : wdsVc3 m = W) (hh : hi ≤ w.heap.size) (hM : Msk lo hi b w (.pointer (some ⟨p, 0, none⟩))) (hx : (Lit.int .i64 x).wf = true) (hv : RdW lv W g w v) :
    Calls Try.prog 41 #[tbV F A n c B m d p e, v, .int .i64 x] w (FlMadeWkD W (rowF m g (fun j => decide (b[j]? = some x))) w) := by
  have hmx : Try.prog.follows .mixedOrders = true := by kernel_rfl
  subst hm
  have hwm := wid_nat hb
  have HNW : Hid (b.length ≤ 64 * wdsVc3 b.length) := by have := wds_wid b.length; rw [hwm] at this; exact this
  have hWl := wds_le b.length
  have HOF := Lib.hid (fun lo hi mv x w hh hmm hs => of_anyMk4 lo hi b mv x w hb hh hmm hs)
  have HRW := Lib.hid (fun P Q c d x y w => hF P Q W W c d x y (b.length : Int) w)
  rw [hW] at HNW hWl HOF HRW
  rw [hwm] at HRW
  clear hW hwm hF
  obtain ⟨V, cV, z, rfl, hc1, hc2, hz, wz, bz, rz, _⟩ := hv
  unfold tbV
  go_enter Try.func41, Try.ntmps41
  go_wp2_with fail
  have hT := tb_new F A n c B b.length d p e w
  have hB := below_a1 w (.cells #[.func (.func F) #[] #[], .slice A n c, .slice B b.length d, .pointer (some ⟨p, 0, none⟩), .int .i64 e] 50)
  have hM1 := hM.below hh hB
  have rz1 := rz.below hB
  obtain ⟨P, hP⟩ : ∃ P, w.heap.size = P := ⟨_, rfl⟩
  have hPl := hT.lt
  have hh1 := Nat.le_trans hh hB.size
  have HB := Lib.hid hB
  clear hM rz hB hh
  generalize w.alloc (.cells #[.func (.func F) #[] #[], .slice A n c, .slice B b.length d, .pointer (some ⟨p, 0, none⟩), .int .i64 e] 50) = wa at *
  rw [hP] at hT hPl ⊢
  have HS0 : Hid (FlS P F B b.length d p wa.drew) := by
    obtain ⟨c0, c1, c2, c3, c4⟩ := hT.cells
    exact ⟨c0, c3, c2⟩
  have hM2 : Msk lo hi b wa.drew (.pointer (some ⟨p, 0, none⟩)) := hM1.keep fun _ _ _ => rfl
  clear hT hM1
  refine wp_region_held (S := FlS P F B b.length d p) hmx ?_
  refine wpAnyH_take (i := 0) (v := ?v1) rfl (by kernel_rfl) (by kernel_rfl) (by kernel_rfl) (fun _ _ _ h => h) (.inl ⟨by kernel_rfl, ?y1⟩) HS0.out ?_
  case y1 =>
    rintro w' ⟨s0, s1, s2⟩
    go_simp
    first | done | with_reducible rfl | rfl
  try simp only [Act.put]
  refine wpAnyH_take (i := 1) (v := ?v2) rfl (by kernel_rfl) (by kernel_rfl) (by kernel_rfl) (fun _ _ _ h => h) (.inl ⟨by kernel_rfl, ?y2⟩) HS0.out ?_
  case y2 =>
    rintro w' ⟨s0, s1, s2⟩
    go_simp
    first | done | with_reducible rfl | rfl
  try simp only [Act.put]
  refine wpAnyH_take (i := 2) (v := ?v3) rfl (by kernel_rfl) (by kernel_rfl) (by kernel_rfl) (fun _ _ _ h => h) (.inl ⟨by kernel_rfl, ?y3⟩) HS0.out ?_
  case y3 =>
    rintro w' ⟨s0, s1, s2⟩
    go_simp
    first | done | with_reducible rfl | rfl
  try simp only [Act.put]
  refine wpAnyH_take (i := 3) (v := ?v4) rfl (by kernel_rfl) (by kernel_rfl) (by kernel_rfl) (fun _ _ _ h => h) (.inl ⟨by kernel_rfl, ?y4⟩) HS0.out ?_
  case y4 =>
    rintro w' ⟨s0, s1, s2⟩
    go_simp
    first | done | with_reducible rfl | rfl
  try simp only [Act.put]
  refine wpAnyH_take (i := 4) (v := ?v5) rfl (by kernel_rfl) (by kernel_rfl) (by kernel_rfl) (fun _ _ _ h => h) (.inl ⟨by kernel_rfl, ?y5⟩) HS0.out ?_
  case y5 =>
    rintro w' ⟨s0, s1, s2⟩
    go_simp
    first | done | with_reducible rfl | rfl
  try simp only [Act.put]
  refine wpAnyH_take (i := 5) (v := ?v6) rfl (by kernel_rfl) (by kernel_rfl) (by kernel_rfl) (fun _ _ _ h => h) (.inl ⟨by kernel_rfl, ?y6⟩) HS0.out ?_
  case y6 =>
    rintro w' ⟨s0, s1, s2⟩
    go_simp
    first | done | with_reducible rfl | rfl
  try simp only [Act.put]
  refine wpAnyH_take (i := 7) (v := ?v7) rfl (by kernel_rfl) (by kernel_rfl) (by kernel_rfl) (fun _ _ _ h => h) (.inl ⟨by kernel_rfl, ?y7⟩) HS0.out ?_
  case y7 =>
    rintro w' ⟨s0, s1, s2⟩
    go_simp
    first | done | with_reducible rfl | rfl
  try simp only [Act.put]
  refine wpAnyH_take (i := 8) (v := ?v8) rfl (by kernel_rfl) (by kernel_rfl) (by kernel_rfl) (fun _ _ _ h => h) (.inl ⟨by kernel_rfl, ?y8⟩) HS0.out ?_
  case y8 =>
    rintro w' ⟨s0, s1, s2⟩
    go_simp
    first | done | with_reducible rfl | rfl
  try simp only [Act.put]
  refine wpAnyH_take (i := 9) (v := ?v9) rfl (by kernel_rfl) (by kernel_rfl) (by kernel_rfl) (fun _ _ _ h => h) (.inl ⟨by kernel_rfl, ?y9⟩) HS0.out ?_
  case y9 =>
    rintro w' ⟨s0, s1, s2⟩
    go_simp
    first | done | with_reducible rfl | rfl
  try simp only [Act.put]
  refine held_one (i := 6) (by kernel_rfl) rfl (by kernel_rfl) ?_
  unfold Oper.wp
  go_simp
  refine (HOF.out lo hi _ x wa.drew hh1 hM2 hx).mono ?_
  intro e w5 hmd
  obtain ⟨mk, rfl, hmk, hb5⟩ := madeV_open (b := fun j => decide (j < 64 * W) && decide (b[j]? = some x)) hmd (fun _ => rfl) (Nat.le_refl _)
  have HS5 : Hid (FlS P F B b.length d p w5) := ⟨(hb5.cell (p := ⟨P, 0, none⟩) hPl).trans HS0.out.1, (hb5.cell (p := ⟨P, 3, none⟩) hPl).trans HS0.out.2.1, (hb5.cell (p := ⟨P, 2, none⟩) hPl).trans HS0.out.2.2⟩
  have rz5 : Row w5 V (uv z) := Row.below (w := wa.drew) rz1 hb5
  have hPl5 : P < w5.heap.size := Nat.lt_of_lt_of_le hPl hb5.size
  have HB5 : Hid (Below w.heap.size w w5) := HB.out.drew.trans (hb5.mono HB.out.size)
  clear hmd hb5 hM2 HS0 rz1 HOF HB
  obtain ⟨Am, cm, u, rfl, hm1, hm2, hu, wu, bu, ru, _⟩ := hmk
  refine ⟨HS5.out, ?_⟩
  try simp only [Act.put]
  refine held_one (i := 10) (by kernel_rfl) rfl (by kernel_rfl) ?_
  unfold Oper.wp
  go_simp
  refine (HRW.out V Am cV cm z u w5 hz hu hWl hWl hc1 hc2 (i64_small (by omega)) rz5 ru wz wu).mono ?_
  intro e w6 hmd
  obtain ⟨q, rfl, hq, hb6⟩ := madeV_open (b := rowF b.length g (fun j => decide (b[j]? = some x))) hmd (fun j => by
    rw [rowF_words HNW.out]
    exact rowF_congr (fun j _ => bz j) (fun j hj => by rw [bu j]; show (decide (j < 64 * W) && decide (b[j]? = some x)) = _; rw [decide_eq_true (show j < 64 * W by have := HNW.out; omega), Bool.true_and]) j) (lo := w.heap.size) HB5.out.size
  have HS6 : Hid (FlS P F B b.length d p w6) := ⟨(hb6.cell (p := ⟨P, 0, none⟩) hPl5).trans HS5.out.1, (hb6.cell (p := ⟨P, 3, none⟩) hPl5).trans HS5.out.2.1, (hb6.cell (p := ⟨P, 2, none⟩) hPl5).trans HS5.out.2.2⟩
  have R : Hid (FlMadeWkD W (rowF b.length g (fun j => decide (b[j]? = some x))) w (.returned q) w6) := ⟨q, rfl, hq, HB5.out.trans (hb6.mono HB5.out.size)⟩
  obtain ⟨Aq, cq, rfl⟩ := hq.form
  clear hmd hb6 HB5 HS5 rz5 ru hq
  refine ⟨HS6.out, ?_⟩
  try simp only [Act.put]
  refine wpAnyH_take (i := 11) (v := ?v10) rfl (by kernel_rfl) (by kernel_rfl) (by kernel_rfl) (fun _ _ _ h => h) (.inl ⟨by kernel_rfl, ?y10⟩) HS6.out ?_
  case y10 =>
    rintro w' ⟨s0, s1, s2⟩
    go_simp
    first | done | with_reducible rfl | rfl
  try simp only [Act.put]
  refine held_done (by kernel_rfl) ?_
  go_simp
  go_wp2_with fail
  go_ret
  exact R.out

/-- What stretch leaves: a piece of the first list. -/
def StMade (a : List Int) (f L : Nat) (w : World) (x : Ending) (w' : World) : Prop := ∃ A' c', x = .returned (.slice A' L c') ∧ Row w' A' (iv ((a.drop f).take L)) ∧ Below w.heap.size w w'

set_option maxRecDepth 100000 in
set_option maxHeartbeats 1600000 in
theorem stretch_any (F : Nat) (A B : Option Addr) (n m c d p f L : Nat) (e : Int) (a : List Int) (w : World) (hn : a.length = n) (hc : n ≤ c) (hf : f ≤ n) (hL : min e ((n - f : Nat) : Int) = (L : Int)) (h1 : Row w A (iv a)) :
    Calls Try.prog 40 #[tbV F A n c B m d p e, .int .i64 (f : Int)] w (StMade a f L w) := by
  obtain ⟨A1, c1, s1, s2, s3⟩ := slice_from A n c f a w h1 hn hc hf
  have hLn : L ≤ n - f := by omega
  obtain ⟨s4, s5⟩ := slice_to A1 (n - f) c1 L _ w s3 (by omega)
  obtain ⟨N, hN⟩ : ∃ N, n - f = N := ⟨_, rfl⟩
  rw [hN] at s1 s2 s4 hL hLn
  have r1 : (if e < (N : Int) then e else (N : Int)) = (L : Int) := by omega
  have r2 : (if (N : Int) < e then (N : Int) else e) = (L : Int) := by omega
  have HF : Hid (∀ w', Below w.heap.size w w' → StMade a f L w (.returned (.slice A1 L c1)) w') := fun w' h => ⟨_, _, rfl, s5.below h, h⟩
  clear s3 s5 h1
  unfold tbV
  go_enter Try.func40, Try.ntmps40
  go_wp2_with fail
  have hT := tb_new F A n c B m d p e w
  have hB := below_a1 w (.cells #[.func (.func F) #[] #[], .slice A n c, .slice B m d, .pointer (some ⟨p, 0, none⟩), .int .i64 e] 50)
  obtain ⟨c0, c1', c2, c3, c4⟩ := hT.cells
  generalize w.alloc (.cells #[.func (.func F) #[] #[], .slice A n c, .slice B m d, .pointer (some ⟨p, 0, none⟩), .int .i64 e] 50) = wa at *
  go_wp2_with fail
  go_ret
  exact HF.out _ hB

end Go.Proofs.Ytncbhnmhaoblaaa

namespace Go.Proofs.Ytncbhnmhaoblaaa
open Go.RowKit

/-- What a table of the call needs: masks of the second list, numbers of the first. -/
def TbIn (lo hi p : Nat) (A : Option Addr) (a b : List Int) (w : World) : Prop := hi ≤ w.heap.size ∧ Msk lo hi b w (.pointer (some ⟨p, 0, none⟩)) ∧ Row w A (iv a)
theorem TbIn.below {lo hi p : Nat} {A : Option Addr} {a b : List Int} {w w' : World} (h : TbIn lo hi p A a b w) (hb : Below w.heap.size w w') : TbIn lo hi p A a b w' :=
  ⟨Nat.le_trans h.1 hb.size, h.2.1.below h.1 hb, h.2.2.below hb⟩

theorem piece_at {a : List Int} {f L k : Nat} {x : Int} (h : ((a.drop f).take L)[k]? = some x) : a[f + k]? = some x := by
  rw [List.getElem?_take] at h
  split at h
  · rwa [List.getElem?_drop] at h
  · cases h
theorem row_bits {a b : List Int} {m i : Nat} {x : Int} (hx : a[i]? = some x) (j : Nat) : rowF m (rowsF m (alikeAt a b) i) (fun j => decide (b[j]? = some x)) j = rowsF m (alikeAt a b) (i + 1) j := by
  show _ = rowF m (rowsF m (alikeAt a b) i) (alikeAt a b i) j
  exact rowF_congr (fun _ _ => rfl) (fun j _ => mask_alike hx j) j

/-- The head of a round of again. -/
def AgRel (a b : List Int) (m W f L : Nat) (w1 : World) (v i : Value) (wr : World) : Prop :=
  ∃ k : Nat, k ≤ L ∧ i = .int .i64 (k : Int) ∧ RdW 0 W (rowsF m (alikeAt a b) (f + k)) wr v ∧ WPart (w1.heap.size + 1) W L w1.heap.size k (fun i => rowsF m (alikeAt a b) (f + i + 1)) wr ∧ Below w1.heap.size w1 wr
theorem ag_step {a b : List Int} {m W f L k : Nat} {w1 wr w2 : World} {q : Value} (hk : k < L) (hP : WPart (w1.heap.size + 1) W L w1.heap.size k (fun i => rowsF m (alikeAt a b) (f + i + 1)) wr) (hB : Below w1.heap.size w1 wr) (hb : Below wr.heap.size wr w2) (hq : RdW wr.heap.size W (rowsF m (alikeAt a b) (f + k + 1)) w2 q) :
    AgRel a b m W f L w1 q (.int .i64 ((k + 1 : Nat) : Int)) (w2.setCell ⟨w1.heap.size, k, none⟩ q) := by
  have hT : w1.heap.size < wr.heap.size := by obtain ⟨F, h, _⟩ := hP; exact h.lt
  have hq' := hq.lower (lo' := w1.heap.size + 1) hT
  exact ⟨k + 1, hk, rfl, (hq'.set (Nat.lt_succ_self _) _).lower (Nat.zero_le _), (hP.below hb).put hq' (Nat.lt_succ_self _), (hB.trans (hb.mono hB.size)).setCell (Nat.le_refl _) _⟩
/-- New rows: their block, and behind it theirs. -/
def RwNew (W n : Nat) (b : Nat → Nat → Bool) (w : World) (e : Ending) (w' : World) : Prop :=
  ∃ T, e = .returned (.slice (some ⟨T, 0, none⟩) n n) ∧ w.heap.size ≤ T ∧ WPart (T + 1) W n T n b w' ∧ Below w.heap.size w w'
theorem ag_done {a b : List Int} {m W f L : Nat} {w w1 wr : World} (hP : WPart (w1.heap.size + 1) W L w1.heap.size L (fun i => rowsF m (alikeAt a b) (f + i + 1)) wr) (hB : Below w1.heap.size w1 wr) (hw : Below w.heap.size w w1) :
    RwNew W L (fun i => rowsF m (alikeAt a b) (f + i + 1)) w (.returned (.slice (some ⟨w1.heap.size, 0, none⟩) L L)) wr :=
  ⟨_, rfl, hw.size, hP, below_go hw hB⟩

set_option maxRecDepth 100000 in
set_option maxHeartbeats 3200000 in
theorem again_any (F : Nat) (eg : ∀ args w, (callFunc F args).run Try.prog w = .ok (.enter F args) w) (hF : RowOK F) (A B : Option Addr) (n m c d p W lo hi f L : Nat) (e : Int) (a b : List Int) (v : Value) (w : World) (hn : a.length = n) (hm : b.length = m) (hb : n ≤ 1048576) (hb' : m ≤ 1048576) (hW : wdsVc3 m = W) (hc : n ≤ c) (hf : f ≤ n) (hL : min e ((n - f : Nat) : Int) = (L : Int)) (hI : TbIn lo hi p A a b w) (wa : ∀ x ∈ a, (Lit.int .i64 x).wf = true) (hv : RdW 0 W (rowsF m (alikeAt a b) f) w v) :
    Calls Try.prog 37 #[tbV F A n c B m d p e, v, .int .i64 (f : Int)] w (RwNew W L (fun i => rowsF m (alikeAt a b) (f + i + 1)) w) := by
  obtain ⟨i0, hi0, hz0, hz1, hz2⟩ := info_parts Try.infoRowW
  have hLb : L ≤ 1048576 := by omega
  have CS := Lib.hid (fun w (h : Row w A (iv a)) => stretch_any F A B n m c d p f L e a w hn hc hf hL h)
  have CF := Lib.hid (fun lv x g v w (h : TbIn lo hi p A a b w) hx hv => follow_anyWkD F eg hF A B n m c d p W lo lv hi e x b g v w hm hb' hW h.1 h.2.1 hx hv)
  have HS : Hid (((a.drop f).take L).length = L) := by
    show _ = _
    rw [List.length_take, List.length_drop]
    omega
  have HWA : Hid (∀ x ∈ (a.drop f).take L, (Lit.int .i64 x).wf = true) := fun x hx => wa x (List.mem_of_mem_drop (List.mem_of_mem_take hx))
  have HPC : Hid (∀ k x, ((a.drop f).take L)[k]? = some x → a[f + k]? = some x) := fun k x h => piece_at h
  have HRB := Lib.hid (fun i x hx => row_bits (a := a) (b := b) (m := m) (i := i) (x := x) hx)
  clear hF hn hm hW hL wa hb hb' hc hf
  unfold tbV at CS CF ⊢
  go_enter Try.func37, Try.ntmps37
  go_wp2_with fail
  have hT := tb_new F A n c B m d p e w
  have hB := below_a1 w (.cells #[.func (.func F) #[] #[], .slice A n c, .slice B m d, .pointer (some ⟨p, 0, none⟩), .int .i64 e] 50)
  obtain ⟨c0, c1, c2, c3, c4⟩ := hT.cells
  have hI1 := hI.below hB
  have hv1 := hv.below hB
  clear hI hv
  generalize w.alloc (.cells #[.func (.func F) #[] #[], .slice A n c, .slice B m d, .pointer (some ⟨p, 0, none⟩), .int .i64 e] 50) = wb at *
  go_wp2_with fail
  refine (CS.out wb hI1.2.2).mono ?_
  rintro x w1 ⟨A', c', rfl, hs, hb1⟩
  have hI2 := hI1.below hb1
  have hv2 := hv1.below hb1
  have hT2 := hT.below hb1
  have hB2 := below_go hB hb1
  clear CS hI1 hv1 hT c0 c1 c2 c3 c4 hb1 hB
  have hP := WPart.start (lo := w1.heap.size + 1) (W := W) (b := fun i => rowsF m (alikeAt a b) (f + i + 1)) w1 L
  have hB3 := below_a1 w1 (.cells (madeCells #[.slice none 0 0] L) 64)
  have hv3 := hv2.below hB3
  obtain ⟨V, cV, rfl⟩ := hv3.form
  go_wp2_with (at_make; refine wpList_make_row _ rfl _ _ 52 rfl 64 i0 (.slice none 0 0) Try.underlying52 hi0 hz0 hz1 rfl .i64 .i64 L rfl rfl (by rw [hz2]; omega) (by omega) ?_)
  clear hv2
  generalize w1.alloc (.cells (madeCells #[.slice none 0 0] L) 64) = w2 at *
  go_wp2_with fail
  go_loopw [1, 19] (fun v i wr => AgRel a b m W f L w1 v i wr) (fun _ i _ => L - (RowKit.intOf i).toNat)
  case atStart => exact ⟨0, Nat.zero_le _, rfl, hv3, hP, hB3⟩
  case round =>
    clear hv3 hP hB3
    obtain ⟨k, hk, rfl, hv, hP, hB⟩ := hrel
    by_cases hlt : k < L
    · have hlt' : k < ((a.drop f).take L).length := by rw [HS.out]; exact hlt
      obtain ⟨g, o, rfl, hc⟩ := (hs.below hB).int hlt'
      have HX := Lib.hid (HPC.out k _ (List.getElem?_eq_getElem hlt'))
      have hx := HWA.out _ (List.getElem_mem hlt')
      generalize ((a.drop f).take L)[k] = x at *
      have hIr := hI2.below hB
      obtain ⟨c0, c1, c2, c3, c4⟩ := (hT2.below hB).cells
      obtain ⟨V, cV, rfl⟩ := hv.form
      go_wp2_with fail
      refine (CF.out 0 x _ _ wr hIr hx hv).mono ?_
      rintro y w3 ⟨q, rfl, hq, hb3⟩
      have hq' := hq.congr (HRB.out (f + k) x HX.out)
      have R := Lib.hid (ag_step hlt hP hB hb3 hq')
      have hPc := hP.below hb3
      obtain ⟨u0, hcc⟩ := hPc.cell (i := k) hlt
      have hff := hPc.frozen k
      obtain ⟨Vq, cq, rfl⟩ := hq.form
      clear hq hq' hP hB hb3 hPc hv c0 c1 c2 c3 c4 hc hIr
      go_wp2_with fail
      go_roundw
      case rel => exact R.out
      case measure => first | omega | (simp [RowKit.intOf]; omega)
    · obtain rfl : k = L := by omega
      have HF := Lib.hid (ag_done hP hB hB2)
      clear hv hP hB hB2 hI2 hT2
      go_wp2_with fail
      go_ret
      exact HF.out

end Go.Proofs.Ytncbhnmhaoblaaa
