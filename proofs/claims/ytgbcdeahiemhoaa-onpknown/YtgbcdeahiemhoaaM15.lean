/-
  Words and contracts that the proof leans on.
-/
import Derived.Test.YtgbcdeahiemhoaaM14
import Derived.Test.YtgbcdeahiemhoaaM13
import Derived.Deep.DeepCutAuto
import Derived.Deep.QuietTactic
import Derived.BigQuiet
import Derived.Test.YtgbcdeahiemhoaaM8
namespace Go.Proofs.Ytgbcdeahiemhoaa
open Go.RowKit

/-- Blocks that are told may turn, all others stay. -/
structure Kp (S : Nat → Prop) (w w' : World) : Prop where
  os : w'.os = w.os
  tape : w'.tape = w.tape
  output : w'.output = w.output
  size : w.heap.size ≤ w'.heap.size
  block : ∀ k, k < w.heap.size → ¬ S k → w'.heap[k]? = w.heap[k]?
section
variable {S S' : Nat → Prop} {w w1 w2 : World}
theorem Kp.refl (S : Nat → Prop) (w : World) : Kp S w w := ⟨rfl, rfl, rfl, Nat.le_refl _, fun _ _ _ => rfl⟩
theorem Kp.trans (h : Kp S w w1) (k : Kp S w1 w2) : Kp S w w2 :=
  ⟨k.os.trans h.os, k.tape.trans h.tape, k.output.trans h.output, Nat.le_trans h.size k.size, fun i hi hS => (k.block i (Nat.lt_of_lt_of_le hi h.size) hS).trans (h.block i hi hS)⟩
theorem Kp.mono (h : Kp S w w1) (e : ∀ k, S k → S' k) : Kp S' w w1 := ⟨h.os, h.tape, h.output, h.size, fun k hk hS => h.block k hk (fun hs => hS (e k hs))⟩
theorem Kp.of_below (S : Nat → Prop) (h : Below w.heap.size w w1) : Kp S w w1 := ⟨h.os, h.tape, h.output, h.size, fun k hk _ => h.block k hk⟩
theorem Kp.of_grown {g : Nat} (h : w.grownBy w1 (some g)) (hg : S g) : Kp S w w1 := ⟨h.os, h.tape, h.output, h.size, fun k hk hS => h.block k hk (fun e => hS (by injection e with e; rw [e]; exact hg))⟩
theorem Kp.drewN (h : Kp S w w1) (q : Nat) : Kp S w (w1.drewN q) := ⟨h.os, h.tape, h.output, h.size, h.block⟩
theorem Kp.setCell (h : Kp S w w1) {a : Addr} (ha : S a.block) (v : Value) : Kp S w (w1.setCell a v) :=
  ⟨h.os, h.tape, h.output, by simpa using h.size, fun k hk hS => (Below.heap_setCell w1 a v k (fun e => hS (e ▸ ha))).trans (h.block k hk hS)⟩
theorem Kp.below (h : Kp S w w1) {B : Nat} (hB : ∀ k, S k → B ≤ k) (hs : B ≤ w.heap.size) : Below B w w1 :=
  ⟨h.os, h.tape, h.output, h.size, fun k hk => h.block k (by omega) (fun hS => by have := hB k hS; omega)⟩
theorem Kp.rowIs (h : Kp S w w1) {b n : Nat} {t : TypeId} {f : Nat → Value} (hr : w.rowIs b t n f) (hb : ¬ S b) : w1.rowIs b t n f := hr.of_block (h.block b hr.lt hb)
end

def cv5 (x y z u v : Value) : Nat → Value
  | 0 => x
  | 1 => y
  | 2 => z
  | 3 => u
  | _ => v
theorem cv5_cases {P : Nat → Prop} (h0 : P 0) (h1 : P 1) (h2 : P 2) (h3 : P 3) (h4 : P 4) (i : Nat) (hi : i < 5) : P i := by
  have : i = 0 ∨ i = 1 ∨ i = 2 ∨ i = 3 ∨ i = 4 := by omega
  rcases this with rfl | rfl | rfl | rfl | rfl <;> assumption

theorem rowIs_ne {w : World} {b b' n n' : Nat} {t t' : TypeId} {f f' : Nat → Value} (h : w.rowIs b t n f) (h' : w.rowIs b' t' n' f') (hne : t ≠ t') : b ≠ b' := by
  rintro rfl
  obtain ⟨c, h1, _⟩ := h
  obtain ⟨c', h2, _⟩ := h'
  rw [h1] at h2
  simp only [Option.some.injEq, Obj.cells.injEq] at h2
  exact hne h2.2.1

/-- The front in block F, its points in block G: at place t the index g t. -/
structure FrO (A B : Option Addr) (n m c d W F G : Nat) (p : Int) (g : Nat → Int) (w : World) : Prop where
  obj : w.rowIs F 46 5 (cv5 (.slice A n c) (.slice B m d) (.int .i64 (W : Int)) (.int .i64 p) (.slice (some ⟨G, 0, none⟩) (n + m + 3) (n + m + 3)))
  far : w.rowIs G 3 (n + m + 3) (fun t => .int .i64 (g t))
section
variable {A B : Option Addr} {n m c d W F G : Nat} {p : Int} {g g' : Nat → Int} {w w' : World} {S : Nat → Prop}
theorem FrO.c0 (h : FrO A B n m c d W F G p g w) : w.cell? ⟨F, 0, none⟩ = some (.slice A n c) := World.rowIs.cell h.obj (by omega)
theorem FrO.c1 (h : FrO A B n m c d W F G p g w) : w.cell? ⟨F, 1, none⟩ = some (.slice B m d) := World.rowIs.cell h.obj (by omega)
theorem FrO.c2 (h : FrO A B n m c d W F G p g w) : w.cell? ⟨F, 2, none⟩ = some (.int .i64 (W : Int)) := World.rowIs.cell h.obj (by omega)
theorem FrO.c3 (h : FrO A B n m c d W F G p g w) : w.cell? ⟨F, 3, none⟩ = some (.int .i64 p) := World.rowIs.cell h.obj (by omega)
theorem FrO.c4 (h : FrO A B n m c d W F G p g w) : w.cell? ⟨F, 4, none⟩ = some (.slice (some ⟨G, 0, none⟩) (n + m + 3) (n + m + 3)) := World.rowIs.cell h.obj (by omega)
theorem FrO.at (h : FrO A B n m c d W F G p g w) {t : Nat} (ht : t < n + m + 3) : w.cell? ⟨G, t, none⟩ = some (.int .i64 (g t)) := World.rowIs.cell h.far ht
theorem FrO.ne (h : FrO A B n m c d W F G p g w) : F ≠ G := rowIs_ne h.obj h.far (by decide)
theorem FrO.kept (h : FrO A B n m c d W F G p g w) (hk : Kp S w w') (hF : ¬ S F) (hG : ¬ S G) : FrO A B n m c d W F G p g w' := ⟨hk.rowIs h.obj hF, hk.rowIs h.far hG⟩
theorem FrO.congr (h : FrO A B n m c d W F G p g w) (e : ∀ t, t < n + m + 3 → g t = g' t) : FrO A B n m c d W F G p g' w := ⟨h.obj, h.far.congr fun t ht => by rw [e t ht]⟩
theorem FrO.drewN (h : FrO A B n m c d W F G p g w) (q : Nat) : FrO A B n m c d W F G p g (w.drewN q) := ⟨h.obj, h.far⟩
theorem FrO.below (h : FrO A B n m c d W F G p g w) (hb : Below w.heap.size w w') : FrO A B n m c d W F G p g w' := h.kept (S := fun _ => False) (Kp.of_below _ hb) id id
/-- A new number at a place. -/
theorem FrO.put (h : FrO A B n m c d W F G p g w) (t : Nat) (x : Int) : FrO A B n m c d W F G p (fun s => if s = t then x else g s) (w.setCell ⟨G, t, none⟩ (.int .i64 x)) := by
  refine ⟨h.obj.setOther h.ne _, (h.far.set t _).congr fun s _ => ?_⟩
  by_cases e : s = t
  · rw [if_pos e, if_pos e]
  · rw [if_neg e, if_neg e]
/-- A new cost. -/
theorem FrO.cost (h : FrO A B n m c d W F G p g w) (q : Int) : FrO A B n m c d W F G q g (w.setCell ⟨F, 3, none⟩ (.int .i64 q)) := by
  refine ⟨(h.obj.set 3 _).congr ?_, h.far.setOther (Ne.symm h.ne) _⟩
  intro i hi
  revert i
  exact cv5_cases rfl rfl rfl rfl rfl
end

/-- What ordered gives. -/
structure OrdF (a b : List Int) (A B : Option Addr) (n m c d : Nat) (t : Bool) (w : World) : Prop where
  hx : (sht a b).length = n
  hy : (lng a b).length = m
  hc : n ≤ c
  hd : m ≤ d
  row1 : Row w A (iv (sht a b))
  row2 : Row w B (iv (lng a b))
  ht : t = decide (b.length < a.length)
theorem OrdF.below {a b : List Int} {A B : Option Addr} {n m c d : Nat} {t : Bool} {w w' : World} (h : OrdF a b A B n m c d t w) (hb : Below w.heap.size w w') : OrdF a b A B n m c d t w' :=
  ⟨h.hx, h.hy, h.hc, h.hd, h.row1.below hb, h.row2.below hb, h.ht⟩
def OrdM (a b : List Int) (w : World) (e : Ending) (w' : World) : Prop :=
  ∃ (A B : Option Addr) (n m c d : Nat) (t : Bool), e = .returned (.tuple #[.slice A n c, .slice B m d, .bool t]) ∧ OrdF a b A B n m c d t w ∧ w' = w

set_option maxRecDepth 100000 in
theorem ordered_any (A B : Option Addr) (n m c d : Nat) (a b : List Int) (w : World) (hn : a.length = n) (hm : b.length = m) (hc : n ≤ c) (hd : m ≤ d) (h1 : Row w A (iv a)) (h2 : Row w B (iv b)) :
    Calls Try.prog 22 #[.slice A n c, .slice B m d] w (OrdM a b w) := by
  by_cases h : m < n
  · have HF : Hid (OrdM a b w (.returned (.tuple #[.slice B m d, .slice A n c, .bool true])) w) := by
      have e := sht_gt (a := a) (b := b) (by omega)
      exact ⟨B, A, m, n, d, c, true, rfl, ⟨by rw [e.1, hm], by rw [e.2, hn], hd, hc, by rw [e.1]; exact h2, by rw [e.2]; exact h1, by rw [hn, hm]; simp [h]⟩, rfl⟩
    clear h1 h2 hn hm hc hd
    go_enter Try.func22, Try.ntmps22
    go_wp2_with fail
    go_ret3
    exact HF.out
  · have HF : Hid (OrdM a b w (.returned (.tuple #[.slice A n c, .slice B m d, .bool false])) w) := by
      have e := sht_le (a := a) (b := b) (by omega)
      exact ⟨A, B, n, m, c, d, false, rfl, ⟨by rw [e.1, hn], by rw [e.2, hm], hc, hd, by rw [e.1]; exact h1, by rw [e.2]; exact h2, by rw [hn, hm]; simp [h]⟩, rfl⟩
    clear h1 h2 hn hm hc hd
    go_enter Try.func22, Try.ntmps22
    go_wp2_with fail
    go_ret3
    exact HF.out

set_option maxRecDepth 100000 in
/-- The place of a diagonal. -/
theorem oplace_any (A : Option Addr) (n c F t : Nat) (k : Int) (w : World) (h : w.cell? ⟨F, 0, none⟩ = some (.slice A n c)) (hk : k + (n : Int) + 1 = (t : Int)) (ht : t ≤ 4194304) :
    Calls Try.prog 29 #[.pointer (some ⟨F, 0, none⟩), .int .i64 k] w fun e w' => e = .returned (.int .i64 (t : Int)) ∧ w' = w := by
  obtain rfl : k = (t : Int) - 1 - (n : Int) := by omega
  clear hk
  go_enter Try.func29, Try.ntmps29
  go_wp2_with fail
  go_ret
  exact ⟨rfl, rfl⟩
theorem oplace_quiet (A : Option Addr) (n c F t : Nat) (k : Int) (w : World) (q : Nat) (h : w.cell? ⟨F, 0, none⟩ = some (.slice A n c)) (hk : k + (n : Int) + 1 = (t : Int)) (ht : t ≤ 4194304) :
    Calls Try.prog 29 #[.pointer (some ⟨F, 0, none⟩), .int .i64 k] (w.drewN q) fun e w' => e = .returned (.int .i64 (t : Int)) ∧ ∃ r, w' = w.drewN r :=
  (oplace_any A n c F t k (w.drewN q) h hk ht).mono fun _ _ ⟨e, e'⟩ => ⟨e, q, e'⟩

set_option maxRecDepth 100000 in
/-- How many diagonals come next. -/
theorem onext_any (F W P : Nat) (p : Int) (w : World) (h2 : w.cell? ⟨F, 2, none⟩ = some (.int .i64 (W : Int))) (h3 : w.cell? ⟨F, 3, none⟩ = some (.int .i64 p)) (hp : p + 1 = (P : Int)) (hW : W ≤ 1048576) (hP : P ≤ 1048577) :
    Calls Try.prog 30 #[.pointer (some ⟨F, 0, none⟩)] w fun e w' => e = .returned (.int .i64 ((W + 2 * P + 1 : Nat) : Int)) ∧ ∃ q, w' = w.drewN q := by
  obtain rfl : p = (P : Int) - 1 := by omega
  clear hp
  have q1 : IntKind.i64.wrap (P : Int) = (P : Int) := IntWalk.i64_in _ (by omega)
  have q2 : IntKind.i64.wrap (2 * (P : Int)) = 2 * (P : Int) := IntWalk.i64_in _ (by omega)
  have q3 : IntKind.i64.wrap ((W : Int) + 2 * (P : Int)) = (W : Int) + 2 * (P : Int) := IntWalk.i64_in _ (by omega)
  have q4 : IntKind.i64.wrap ((W : Int) + 2 * (P : Int) + 1) = (W : Int) + 2 * (P : Int) + 1 := IntWalk.i64_in _ (by omega)
  go_enter Try.func30, Try.ntmps30
  go_wp2_with fail
  go_quiet (fail)
  go_wp2_with fail
  go_ret
  exact ⟨by go_num, _, rfl⟩

set_option maxRecDepth 100000 in
/-- Has the end been reached? -/
theorem arrived_any (A B : Option Addr) (n m c d W F G : Nat) (p : Int) (g : Nat → Int) (w : World) (h : FrO A B n m c d W F G p g w) (hn : n ≤ 1048576) (hm : m ≤ 1048576) (hW : n + W = m) :
    Calls Try.prog 24 #[.pointer (some ⟨F, 0, none⟩)] w fun e w' => e = .returned (.bool (decide (g (m + 1) = (m : Int)))) ∧ ∃ q, w' = w.drewN q := by
  have c1 := h.c1
  have c2 := h.c2
  have c4 := h.c4
  have ca := h.at (t := m + 1) (by omega)
  have C := Lib.hid (fun q => oplace_quiet A n c F (m + 1) (W : Int) w q h.c0 (by omega) (by omega))
  clear h hW
  generalize g (m + 1) = x at *
  by_cases hx : x = (m : Int)
  · subst hx
    go_enter Try.func24, Try.ntmps24
    go_wp2_with fail
    go_quiet ((go_at_call 29; exact C.out _))
    go_wp2_with fail
    go_ret
    exact ⟨by simp, _, rfl⟩
  · have hz : (x == (m : Int)) = false := by simpa using hx
    rw [decide_eq_false hx]
    clear hx
    go_enter Try.func24, Try.ntmps24
    go_wp2_with fail
    go_quiet ((go_at_call 29; exact C.out _))
    go_wp2_with fail
    go_ret
    exact ⟨rfl, _, rfl⟩

end Go.Proofs.Ytgbcdeahiemhoaa

namespace Go.Proofs.Ytgbcdeahiemhoaa
open Go.RowKit

theorem most_in {N M W q : Nat} {d : Int} (hN : N ≤ 1048576) (hM : M ≤ 1048576) (hW : max N M - min N M = W) (hd : d = (W : Int) + 2 * q) (hd2 : d ≤ (N : Int) + M) : mostQ N M d = ((q : Int) + 1) * ((W : Int) + q + 1) := by
  have e : max (N : Int) M - min (N : Int) M = (W : Int) := by omega
  unfold mostQ
  rw [if_pos ⟨⟨by omega, by omega⟩, ⟨by omega, by omega⟩, ⟨by omega, hd2⟩, by omega⟩, e, show (d - (W : Int)) / 2 = (q : Int) by omega]
theorem most_fits {W q : Nat} (hW : W ≤ 1048576) (hq : q ≤ 1048576) : IntKind.i64.wrap (((q : Int) + 1) * ((W : Int) + q + 1)) = ((q : Int) + 1) * ((W : Int) + q + 1) := by
  have h1 : (q + 1) * (W + q + 1) ≤ 1048577 * 2097153 := Nat.mul_le_mul (by omega) (by omega)
  have h2 : (((q + 1) * (W + q + 1) : Nat) : Int) = ((q : Int) + 1) * ((W : Int) + q + 1) := by simp
  exact IntWalk.i64_in _ (by omega)
theorem tmod_two {z : Int} (h : 0 ≤ z) : z.tmod 2 = z % 2 := Int.tmod_eq_emod_of_nonneg h
theorem tdiv_two {z : Int} (h : 0 ≤ z) : z.tdiv 2 = z / 2 := Int.tdiv_eq_ediv_of_nonneg h

set_option maxRecDepth 100000 in
set_option maxHeartbeats 800000 in
theorem omost_any (n m d : Int) (w : World) (hd : I64 d) :
    Calls Try.prog 13 #[.int .i64 n, .int .i64 m, .int .i64 d] w fun e w' => e = .returned (.int .i64 (mostQ n m d)) ∧ w' = w := by
  obtain ⟨d1, d2⟩ := hd
  by_cases h1 : n < 0
  · rw [mostQ_out (by omega)]
    go_enter Try.func13, Try.ntmps13
    go_wp2_with fail
    go_ret
    exact ⟨rfl, rfl⟩
  by_cases h2 : 1048576 < n
  · rw [mostQ_out (by omega)]
    go_enter Try.func13, Try.ntmps13
    go_wp2_with fail
    go_ret
    exact ⟨rfl, rfl⟩
  by_cases h3 : m < 0
  · rw [mostQ_out (by omega)]
    go_enter Try.func13, Try.ntmps13
    go_wp2_with fail
    go_ret
    exact ⟨rfl, rfl⟩
  by_cases h4 : 1048576 < m
  · rw [mostQ_out (by omega)]
    go_enter Try.func13, Try.ntmps13
    go_wp2_with fail
    go_ret
    exact ⟨rfl, rfl⟩
  obtain ⟨N, rfl⟩ : ∃ N : Nat, n = (N : Int) := ⟨n.toNat, by omega⟩
  obtain ⟨M, rfl⟩ : ∃ M : Nat, m = (M : Int) := ⟨m.toNat, by omega⟩
  obtain ⟨W, hW⟩ : ∃ W, max N M - min N M = W := ⟨_, rfl⟩
  have eW : (if (N : Int) - (M : Int) < (M : Int) - (N : Int) then (M : Int) - (N : Int) else (N : Int) - (M : Int)) = (W : Int) := by split <;> omega
  have hWb : W ≤ 1048576 := by omega
  have HW := Lib.hid hW
  clear hW
  by_cases h5 : d < (W : Int)
  · rw [mostQ_out (by have := HW.out; omega)]
    go_enter Try.func13, Try.ntmps13
    go_wp2_with fail
    go_ret
    exact ⟨rfl, rfl⟩
  by_cases h6 : (N : Int) + (M : Int) < d
  · rw [mostQ_out (by have := HW.out; omega)]
    go_enter Try.func13, Try.ntmps13
    go_wp2_with fail
    go_ret
    exact ⟨rfl, rfl⟩
  by_cases h7 : (d - (W : Int)) % 2 = 0
  · obtain ⟨q, hq⟩ : ∃ q : Nat, d = (W : Int) + 2 * q := ⟨((d - W) / 2).toNat, by omega⟩
    have HM := Lib.hid (most_in (N := N) (M := M) (by omega) (by omega) HW.out hq (by omega))
    have t1 : (d - (W : Int)).tmod 2 = 0 := by rw [tmod_two (by omega)]; exact h7
    have t2 : (d - (W : Int)).tdiv 2 = (q : Int) := by rw [tdiv_two (by omega)]; omega
    have hqb : q ≤ 1048576 := by omega
    have q1 := most_fits hWb hqb
    clear h7 hq
    generalize mostQ N M d = D at *
    go_enter Try.func13, Try.ntmps13
    go_wp2_with fail
    go_ret
    exact ⟨by rw [HM.out]; rfl, rfl⟩
  · rw [mostQ_out (by have := HW.out; omega)]
    have t1 : (d - (W : Int)).tmod 2 = 1 := by rw [tmod_two (by omega)]; omega
    clear h7
    go_enter Try.func13, Try.ntmps13
    go_wp2_with fail
    go_ret
    exact ⟨rfl, rfl⟩

theorem apart_any (N M W : Nat) (w : World) (hN : N ≤ 1048576) (hM : M ≤ 1048576) (hW : max N M - min N M = W) :
    Calls Try.prog 21 #[.int .i64 (N : Int), .int .i64 (M : Int)] w fun e w' => e = .returned (.int .i64 (W : Int)) ∧ w' = w := by
  by_cases h : M < N
  · obtain rfl : N = M + W := by omega
    clear hW
    have e1 : ((M + W : Nat) : Int) - (M : Int) = (W : Int) := by omega
    go_enter Try.func21, Try.ntmps21
    go_wp2_with fail
    go_ret
    exact ⟨by go_num, rfl⟩
  · obtain rfl : M = N + W := by omega
    clear hW
    go_enter Try.func21, Try.ntmps21
    go_wp2_with fail
    go_ret
    exact ⟨by go_num, rfl⟩

set_option maxRecDepth 100000 in
set_option maxHeartbeats 800000 in
theorem rmost_any (n m d : Int) (w : World) (hd : I64 d) :
    Calls Try.prog 15 #[.int .i64 n, .int .i64 m, .int .i64 d] w fun e w' => e = .returned (.int .i64 (mostQ n m d)) ∧ w' = w := by
  obtain ⟨d1, d2⟩ := hd
  by_cases h1 : n < 0
  · rw [mostQ_out (by omega)]
    go_enter Try.func15, Try.ntmps15
    go_wp2_with fail
    go_ret
    exact ⟨rfl, rfl⟩
  by_cases h2 : 1048576 < n
  · rw [mostQ_out (by omega)]
    go_enter Try.func15, Try.ntmps15
    go_wp2_with fail
    all_goals (go_ret; exact ⟨rfl, rfl⟩)
  by_cases h3 : m < 0
  · rw [mostQ_out (by omega)]
    go_enter Try.func15, Try.ntmps15
    go_wp2_with fail
    go_ret
    exact ⟨rfl, rfl⟩
  by_cases h4 : 1048576 < m
  · rw [mostQ_out (by omega)]
    go_enter Try.func15, Try.ntmps15
    go_wp2_with fail
    go_ret
    exact ⟨rfl, rfl⟩
  obtain ⟨N, rfl⟩ : ∃ N : Nat, n = (N : Int) := ⟨n.toNat, by omega⟩
  obtain ⟨M, rfl⟩ : ∃ M : Nat, m = (M : Int) := ⟨m.toNat, by omega⟩
  obtain ⟨W, hW⟩ : ∃ W, max N M - min N M = W := ⟨_, rfl⟩
  have CA := Lib.hid (fun w => apart_any N M W w (by omega) (by omega) hW)
  have hWb : W ≤ 1048576 := by omega
  have HW := Lib.hid hW
  clear hW
  by_cases h5 : d < (W : Int)
  · rw [mostQ_out (by have := HW.out; omega)]
    go_enter Try.func15, Try.ntmps15
    go_wp2_with fail
    refine (CA.out _).mono ?_
    rintro e w1 ⟨rfl, rfl⟩
    clear CA
    go_wp2_with fail
    go_ret
    exact ⟨rfl, rfl⟩
  by_cases h6 : (N : Int) + (M : Int) < d
  · rw [mostQ_out (by have := HW.out; omega)]
    go_enter Try.func15, Try.ntmps15
    go_wp2_with fail
    refine (CA.out _).mono ?_
    rintro e w1 ⟨rfl, rfl⟩
    clear CA
    go_wp2_with fail
    go_ret
    exact ⟨rfl, rfl⟩
  by_cases h7 : (d - (W : Int)) % 2 = 0
  · obtain ⟨q, hq⟩ : ∃ q : Nat, d = (W : Int) + 2 * q := ⟨((d - W) / 2).toNat, by omega⟩
    have HM := Lib.hid (most_in (N := N) (M := M) (by omega) (by omega) HW.out hq (by omega))
    have t1 : (d - (W : Int)).tmod 2 = 0 := by rw [tmod_two (by omega)]; exact h7
    have t2 : (d - (W : Int)).tdiv 2 = (q : Int) := by rw [tdiv_two (by omega)]; omega
    have hqb : q ≤ 1048576 := by omega
    have q1 := most_fits hWb hqb
    clear h7 hq
    generalize mostQ N M d = D at *
    go_enter Try.func15, Try.ntmps15
    go_wp2_with fail
    refine (CA.out _).mono ?_
    rintro e w1 ⟨rfl, rfl⟩
    clear CA
    go_wp2_with fail
    go_ret
    exact ⟨by rw [HM.out]; rfl, rfl⟩
  · rw [mostQ_out (by have := HW.out; omega)]
    have t1 : (d - (W : Int)).tmod 2 = 1 := by rw [tmod_two (by omega)]; omega
    clear h7
    go_enter Try.func15, Try.ntmps15
    go_wp2_with fail
    refine (CA.out _).mono ?_
    rintro e w1 ⟨rfl, rfl⟩
    clear CA
    go_wp2_with fail
    go_ret
    exact ⟨rfl, rfl⟩

end Go.Proofs.Ytgbcdeahiemhoaa
