/-
  Words and contracts that the proof leans on.
-/
import Derived.Test.YthpinbmimgojnaaM12
import Derived.Test.YthpinbmimgojnaaM16
import Derived.Test.YthpinbmimgojnaaM5
import Derived.OrdersHeld
namespace Go.Proofs.Ythpinbmimgojnaa
open Go.RowKit

def cv6 (x y z u v r : Value) : Nat → Value
  | 0 => x
  | 1 => y
  | 2 => z
  | 3 => u
  | 4 => v
  | _ => r
theorem cv6_cases {P : Nat → Prop} (h0 : P 0) (h1 : P 1) (h2 : P 2) (h3 : P 3) (h4 : P 4) (h5 : P 5) (i : Nat) (hi : i < 6) : P i := by
  have : i = 0 ∨ i = 1 ∨ i = 2 ∨ i = 3 ∨ i = 4 ∨ i = 5 := by omega
  rcases this with rfl | rfl | rfl | rfl | rfl | rfl <;> assumption

/-- The strip in block F, its costs in block G: at place t the cost g t. -/
structure SrO (A B : Option Addr) (n m c d L H F G i : Nat) (g : Nat → Int) (w : World) : Prop where
  obj : w.rowIs F 54 6 (cv6 (.slice A n c) (.slice B m d) (.int .i64 (-(L : Int))) (.int .i64 (H : Int)) (.int .i64 (i : Int)) (.slice (some ⟨G, 0, none⟩) (L + H + 3) (L + H + 3)))
  far : w.rowIs G 3 (L + H + 3) (fun t => .int .i64 (g t))
section
variable {A B : Option Addr} {n m c d L H F G i : Nat} {g g' : Nat → Int} {w w' : World} {S : Nat → Prop}
theorem SrO.c0 (h : SrO A B n m c d L H F G i g w) : w.cell? ⟨F, 0, none⟩ = some (.slice A n c) := World.rowIs.cell h.obj (by omega)
theorem SrO.c1 (h : SrO A B n m c d L H F G i g w) : w.cell? ⟨F, 1, none⟩ = some (.slice B m d) := World.rowIs.cell h.obj (by omega)
theorem SrO.c2 (h : SrO A B n m c d L H F G i g w) : w.cell? ⟨F, 2, none⟩ = some (.int .i64 (-(L : Int))) := World.rowIs.cell h.obj (by omega)
theorem SrO.c3 (h : SrO A B n m c d L H F G i g w) : w.cell? ⟨F, 3, none⟩ = some (.int .i64 (H : Int)) := World.rowIs.cell h.obj (by omega)
theorem SrO.c4 (h : SrO A B n m c d L H F G i g w) : w.cell? ⟨F, 4, none⟩ = some (.int .i64 (i : Int)) := World.rowIs.cell h.obj (by omega)
theorem SrO.c5 (h : SrO A B n m c d L H F G i g w) : w.cell? ⟨F, 5, none⟩ = some (.slice (some ⟨G, 0, none⟩) (L + H + 3) (L + H + 3)) := World.rowIs.cell h.obj (by omega)
theorem SrO.at (h : SrO A B n m c d L H F G i g w) {t : Nat} (ht : t < L + H + 3) : w.cell? ⟨G, t, none⟩ = some (.int .i64 (g t)) := World.rowIs.cell h.far ht
theorem SrO.ne (h : SrO A B n m c d L H F G i g w) : F ≠ G := rowIs_ne h.obj h.far (by decide)
theorem SrO.lt (h : SrO A B n m c d L H F G i g w) : F < w.heap.size ∧ G < w.heap.size := ⟨h.obj.lt, h.far.lt⟩
theorem SrO.kept (h : SrO A B n m c d L H F G i g w) (hk : Kp S w w') (hF : ¬ S F) (hG : ¬ S G) : SrO A B n m c d L H F G i g w' := ⟨hk.rowIs h.obj hF, hk.rowIs h.far hG⟩
theorem SrO.congr (h : SrO A B n m c d L H F G i g w) (e : ∀ t, t < L + H + 3 → g t = g' t) : SrO A B n m c d L H F G i g' w := ⟨h.obj, h.far.congr fun t ht => by rw [e t ht]⟩
theorem SrO.drewN (h : SrO A B n m c d L H F G i g w) (q : Nat) : SrO A B n m c d L H F G i g (w.drewN q) := ⟨h.obj, h.far⟩
theorem SrO.below (h : SrO A B n m c d L H F G i g w) (hb : Below w.heap.size w w') : SrO A B n m c d L H F G i g w' := h.kept (S := fun _ => False) (Kp.of_below _ hb) id id
/-- A new cost at a place. -/
theorem SrO.put (h : SrO A B n m c d L H F G i g w) (t : Nat) (x : Int) : SrO A B n m c d L H F G i (fun s => if s = t then x else g s) (w.setCell ⟨G, t, none⟩ (.int .i64 x)) := by
  refine ⟨h.obj.setOther h.ne _, (h.far.set t _).congr fun s _ => ?_⟩
  by_cases e : s = t
  · rw [if_pos e, if_pos e]
  · rw [if_neg e, if_neg e]
/-- The next row. -/
theorem SrO.row (h : SrO A B n m c d L H F G i g w) (q : Nat) : SrO A B n m c d L H F G q g (w.setCell ⟨F, 4, none⟩ (.int .i64 (q : Int))) := by
  refine ⟨(h.obj.set 4 _).congr ?_, h.far.setOther (Ne.symm h.ne) _⟩
  intro i hi
  revert i
  exact cv6_cases rfl rfl rfl rfl rfl rfl
end

set_option maxRecDepth 100000 in
theorem bapart_any (n m : Nat) (w : World) (hn : n ≤ 1048576) (hm : m ≤ 1048576) :
    Calls Try.prog 19 #[.int .i64 (n : Int), .int .i64 (m : Int)] w fun e w' => e = .returned (.int .i64 (apN n m : Nat)) ∧ w' = w := by
  have HA : Hid (∀ z : Int, z = max ((n : Int) - m) ((m : Int) - n) → z = ((apN n m : Nat) : Int)) := fun z hz => by unfold apN; omega
  generalize apN n m = D at *
  by_cases h : (n : Int) - m < (m : Int) - n
  · go_enter Try.func19, Try.ntmps19
    go_wp2_with fail
    go_ret
    exact ⟨congrArg (fun z => Ending.returned (Value.int .i64 z)) (HA.out _ (by omega)), rfl⟩
  · go_enter Try.func19, Try.ntmps19
    go_wp2_with fail
    go_ret
    exact ⟨congrArg (fun z => Ending.returned (Value.int .i64 z)) (HA.out _ (by omega)), rfl⟩
set_option maxRecDepth 100000 in
theorem bnext_any (k : Nat) (w : World) (hk : k ≤ 4611686018427387903) :
    Calls Try.prog 23 #[.int .i64 (k : Int)] w fun e w' => e = .returned (.int .i64 ((2 * k + 1 : Nat) : Int)) ∧ w' = w := by
  have q1 : IntKind.i64.wrap (2 * (k : Int)) = 2 * (k : Int) := IntWalk.i64_in _ (by omega)
  have q2 : IntKind.i64.wrap (2 * (k : Int) + 1) = 2 * (k : Int) + 1 := IntWalk.i64_in _ (by omega)
  go_enter Try.func23, Try.ntmps23
  go_wp2_with fail
  go_ret
  exact ⟨by go_num, rfl⟩
set_option maxRecDepth 100000 in
theorem baside_any (n m k : Nat) (w : World) (hn : n ≤ 1048576) (hm : m ≤ 1048576) (hk : apN n m ≤ k) (hk2 : k ≤ 9223372036854775807) :
    Calls Try.prog 25 #[.int .i64 (n : Int), .int .i64 (m : Int), .int .i64 (k : Int)] w fun e w' => e = .returned (.int .i64 ((sdQ n m k : Nat) : Int)) ∧ w' = w := by
  have C := Lib.hid (bapart_any n m w hn hm)
  have HA : Hid (∀ z : Int, z = min (min ((((k - apN n m) / 2 : Nat) : Nat) : Int) n) m → z = ((sdQ n m k : Nat) : Int)) := fun z hz => by unfold sdQ; omega
  generalize sdQ n m k = S at *
  generalize apN n m = D at *
  obtain ⟨Z, hZ⟩ : ∃ z, (k - D) / 2 = z := ⟨_, rfl⟩
  rw [hZ] at HA
  have z1 : IntKind.i64.wrap ((k : Int) - (D : Int)) = (k : Int) - (D : Int) := IntWalk.i64_in _ (by omega)
  have z2 : ((k : Int) - (D : Int)) / 2 = (Z : Int) := by omega
  have z3 : ((k : Int) - (D : Int)).tdiv 2 = (Z : Int) := by rw [Int.tdiv_eq_ediv_of_nonneg (by omega)]; exact z2
  have hZb : Z ≤ 4611686018427387903 := by omega
  clear hZ hk
  rcases Nat.lt_or_ge n Z with e1 | e1 <;> rcases Nat.lt_or_ge m (min n Z) with e2 | e2
  all_goals
    go_enter Try.func25, Try.ntmps25
    go_wp2_with fail
    refine C.out.mono ?_
    rintro e w1 ⟨rfl, rfl⟩
    clear C
    go_wp2_with fail
    all_goals
      go_ret
      exact ⟨congrArg (fun z => Ending.returned (Value.int .i64 z)) (HA.out _ (by omega)), rfl⟩

/-- Where a row has a place. -/
theorem bplace_any {A B : Option Addr} {n m c d L H F G i : Nat} {g : Nat → Int} {w : World} (h : SrO A B n m c d L H F G i g w) (j : Int) (t : Nat) (ht : j + (L : Int) + 1 - i = (t : Int)) (hi : i ≤ 1048577) (hL : L ≤ 1048576) (hj : -1 ≤ j ∧ j ≤ 4194304) :
    Calls Try.prog 29 #[.pointer (some ⟨F, 0, none⟩), .int .i64 j] w fun e w' => e = .returned (.int .i64 (t : Int)) ∧ ∃ q, w' = w.drewN q := by
  have c2 := h.c2
  have c4 := h.c4
  clear h
  obtain rfl : j = (t : Int) - 1 - L + i := by omega
  have q1 : IntKind.i64.wrap ((t : Int) - 1 - L + i - i) = (t : Int) - 1 - L := (IntWalk.i64_in _ (by omega)).trans (by omega)
  have q2 : IntKind.i64.wrap ((t : Int) - 1 - L - -(L : Int)) = (t : Int) - 1 := (IntWalk.i64_in _ (by omega)).trans (by omega)
  have q3 : IntKind.i64.wrap ((t : Int) - 1 + 1) = (t : Int) := (IntWalk.i64_in _ (by omega)).trans (by omega)
  clear ht
  go_enter Try.func29, Try.ntmps29
  go_wp2_with fail
  go_quiet (fail)
  go_wp2_with fail
  go_ret
  exact ⟨rfl, _, rfl⟩
theorem bplace_quiet {A B : Option Addr} {n m c d L H F G i : Nat} {g : Nat → Int} {w : World} (h : SrO A B n m c d L H F G i g w) (j : Int) (t : Nat) (ht : j + (L : Int) + 1 - i = (t : Int)) (hi : i ≤ 1048577) (hL : L ≤ 1048576) (hj : -1 ≤ j ∧ j ≤ 4194304) (q : Nat) :
    Calls Try.prog 29 #[.pointer (some ⟨F, 0, none⟩), .int .i64 j] (w.drewN q) fun e w' => e = .returned (.int .i64 (t : Int)) ∧ ∃ r, w' = w.drewN r :=
  (bplace_any (h.drewN q) j t ht hi hL hj).mono fun _ _ ⟨e, r, e'⟩ => ⟨e, q + r, by rw [e', World.drewN_drewN]⟩
/-- The first place of a row that is not 0. -/
theorem bfirst_any {A B : Option Addr} {n m c d L H F G i : Nat} {g : Nat → Int} {w : World} (h : SrO A B n m c d L H F G i g w) (r : Nat) (hr : r ≤ 1048577) (hL : L ≤ 1048576) :
    Calls Try.prog 30 #[.pointer (some ⟨F, 0, none⟩), .int .i64 (r : Int)] w fun e w' => e = .returned (.int .i64 (fsJ L r : Nat)) ∧ w' = w := by
  have c2 := h.c2
  clear h
  have HA : Hid (∀ z : Int, z = max ((r : Int) - L) 1 → z = ((fsJ L r : Nat) : Int)) := fun z hz => by unfold fsJ; omega
  generalize fsJ L r = S at *
  have q1 : IntKind.i64.wrap ((r : Int) + -(L : Int)) = (r : Int) - L := (IntWalk.i64_in _ (by omega)).trans (by omega)
  by_cases e : (r : Int) - L < 1
  · go_enter Try.func30, Try.ntmps30
    go_wp2_with fail
    go_ret
    exact ⟨congrArg (fun z => Ending.returned (Value.int .i64 z)) (HA.out _ (by omega)), rfl⟩
  · go_enter Try.func30, Try.ntmps30
    go_wp2_with fail
    go_ret
    exact ⟨congrArg (fun z => Ending.returned (Value.int .i64 z)) (HA.out _ (by omega)), rfl⟩
theorem bfirst_quiet {A B : Option Addr} {n m c d L H F G i : Nat} {g : Nat → Int} {w : World} (h : SrO A B n m c d L H F G i g w) (r : Nat) (hr : r ≤ 1048577) (hL : L ≤ 1048576) (q : Nat) :
    Calls Try.prog 30 #[.pointer (some ⟨F, 0, none⟩), .int .i64 (r : Int)] (w.drewN q) fun e w' => e = .returned (.int .i64 (fsJ L r : Nat)) ∧ ∃ r, w' = w.drewN r :=
  (bfirst_any (h.drewN q) r hr hL).mono fun _ _ ⟨e, e'⟩ => ⟨e, q, e'⟩
/-- The cost at the ends of both lists. -/
theorem bend_any {A B : Option Addr} {n m c d L H F G i : Nat} {g : Nat → Int} {w : World} (h : SrO A B n m c d L H F G i g w) (t : Nat) (ht : m + L + 1 - i = t) (hi : i ≤ m + L) (hi2 : i ≤ 1048577) (hL : L ≤ 1048576) (hm : m ≤ 1048576) (hH : m ≤ i + H) (hH2 : H ≤ 1048576) :
    Calls Try.prog 22 #[.pointer (some ⟨F, 0, none⟩)] w fun e w' => e = .returned (.int .i64 (g t)) ∧ ∃ q, w' = w.drewN q := by
  have C := Lib.hid (bplace_quiet h (m : Int) t (by omega) hi2 hL (by omega))
  have c1 := h.c1
  have c5 := h.c5
  have ca := h.at (t := t) (by omega)
  have htN : t < L + H + 3 := by omega
  obtain ⟨N, hN⟩ : ∃ N, L + H + 3 = N := ⟨_, rfl⟩
  have hNb : N ≤ 4194304 := by omega
  rw [hN] at c5 htN
  clear h ht hN hi hH
  generalize g t = x at *
  go_enter Try.func22, Try.ntmps22
  go_wp2_with fail
  go_quiet ((go_at_call 29; exact C.out _))
  go_wp2_with fail
  go_ret
  exact ⟨rfl, _, rfl⟩

end Go.Proofs.Ythpinbmimgojnaa

namespace Go.Proofs.Ythpinbmimgojnaa
open Go.RowKit

/-- Blocks that advance may turn. -/
def FGN (F G B k : Nat) : Prop := k = F ∨ k = G ∨ B ≤ k
/-- How many words a row of bits has. -/
def nwR (L H m i : Nat) : Nat := (lsJ H m i - fsJ L i - 1) / 64 + 1
/-- What advance leaves. -/
structure AdV (A B : Option Addr) (n m c d k L H F G i R : Nat) (x y : List Int) (w w' : World) : Prop where
  row : ∃ g, SrO A B n m c d L H F G (i + 1) g w' ∧ RwI x y k L H (i + 1) g
  bits : ∃ f, BitR R (nwR L H m (i + 1)) (-((fsJ L (i + 1) : Nat) : Int)) f w' ∧ WyF x y k L H i (lsJ H m (i + 1)) f
  keep : Kp (fun k => k = F ∨ k = G) w w'
  new : w.heap.size ≤ R
def AdvM (A B : Option Addr) (n m c d k L H F G i : Nat) (x y : List Int) (w : World) (e : Ending) (w' : World) : Prop :=
  ∃ R, e = .returned (.slice (some ⟨R, 0, none⟩) (nwR L H m (i + 1)) (nwR L H m (i + 1))) ∧ AdV A B n m c d k L H F G i R x y w w'
/-- The head of a round. -/
structure AdS (A B : Option Addr) (n m c d k L H F G i R N p s : Nat) (x y : List Int) (g : Nat → Int) (f : Int → Bool) (w0 wr : World) : Prop where
  row : SrO A B n m c d L H F G (i + 1) g wr
  mid : MdI x y k L H i (p + s + 1) g
  bits : BitR R N (-((p + 1 : Nat) : Int)) f wr
  way : WyF x y k L H i (p + s + 1) f
  zero : ∀ κ : Int, ((p + s + 1 : Nat) : Int) ≤ κ → f κ = false
  keep : Kp (FGN F G w0.heap.size) w0 wr
def AdRl (A B : Option Addr) (n m c d k L H F G i R N p D : Nat) (x y : List Int) (w0 : World) (s across : Value) (wr : World) : Prop :=
  ∃ (a : Nat) (g : Nat → Int) (f : Int → Bool), a ≤ D ∧ s = .int .i64 (a : Int) ∧ across = .int .i64 (g (p + a + L - i)) ∧ AdS A B n m c d k L H F G i R N p a x y g f w0 wr
section
variable {A B : Option Addr} {n m c d k L H F G i R N p s : Nat} {x y : List Int} {g : Nat → Int} {f : Int → Bool} {w0 wr : World}
theorem AdS.drewN (h : AdS A B n m c d k L H F G i R N p s x y g f w0 wr) (q : Nat) : AdS A B n m c d k L H F G i R N p s x y g f w0 (wr.drewN q) :=
  ⟨h.row.drewN q, h.mid, h.bits.kept ((Kp.refl (fun _ => False) _).drewN q) id, h.way, h.zero, h.keep.drewN q⟩
/-- The next place: its cost, and its bit where it has been set. -/
theorem AdS.next {u v z : Int} {w2 : World} {P0 D : Nat} (h : AdS A B n m c d k L H F G i R N p s x y g f w0 wr) (hw : apN x.length y.length ≤ k) (hL : L = sdL x.length y.length k) (hH : H = sdH x.length y.length k) (hi : i + 1 ≤ x.length) (hJ : p + s + 1 ≤ y.length) (h1 : i + 1 ≤ p + s + 1 + L) (h2 : p + s + 1 ≤ i + 1 + H)
    (hu : x[i]? = some u) (hv : y[p + s]? = some v) (hG : G < w0.heap.size) (hF : F < w0.heap.size) (hR : w0.heap.size ≤ R) (hP : p + s + 1 + L - i = P0 + s) (hD : s < D)
    (hk : Kp (fun b => b = R) wr w2) (hb : BitR R N (-((p + 1 : Nat) : Int)) (fun κ => if κ = ((p + s + 1 : Nat) : Int) then decide (g (p + s + L - i) < g (p + s + L + 2 - i)) else f κ) w2) (hz : z = bnV u v (g (p + s + 1 + L - i)) (g (p + s + L - i)) (g (p + s + L + 2 - i))) :
    AdRl A B n m c d k L H F G i R N p D x y w0 (.int .i64 ((s + 1 : Nat) : Int)) (.int .i64 z) (w2.setCell ⟨G, P0 + s, none⟩ (.int .i64 z)) := by
  subst hz
  rw [← hP]
  have kG : Kp (fun b => b = G) w2 (w2.setCell ⟨G, p + s + 1 + L - i, none⟩ (.int .i64 (bnV u v (g (p + s + 1 + L - i)) (g (p + s + L - i)) (g (p + s + L + 2 - i))))) := (Kp.refl (fun b => b = G) w2).setCell (a := ⟨G, _, none⟩) rfl _
  refine ⟨s + 1, fun t => if t = p + s + 1 + L - i then bnV u v (g (p + s + 1 + L - i)) (g (p + s + L - i)) (g (p + s + L + 2 - i)) else g t, _, hD, rfl, ?_, (h.row.kept hk (by omega) (by omega)).put _ _, md_step h.mid hw hL hH hi hJ h1 h2 hu hv (fun t _ => rfl), hb.kept kG (by omega), wy_step h.mid h.way hw hL hH hi hJ h1 h2 (fun κ => rfl), fun κ hκ => ?_, (h.keep.trans (hk.mono fun b e => .inr (.inr (by omega)))).trans (kG.mono fun b e => .inr (.inl e))⟩
  · rw [show p + (s + 1) + L - i = p + s + 1 + L - i by omega]
    simp only [if_pos]
  · rw [if_neg (by omega)]
    exact h.zero κ (by omega)
end
/-- What the loads read. -/
def AdT (I F G N : Nat) (w : World) : Prop := w.cell? ⟨F, 5, none⟩ = some (.slice (some ⟨G, 0, none⟩) N N) ∧ w.cell? ⟨F, 4, none⟩ = some (.int .i64 (I : Int))
/-- When the place of the row's beginning has been laid. -/
def AdI (A B : Option Addr) (n m c d k L H F G i R Y p : Nat) (x y : List Int) (w0 wr : World) : Prop :=
  ∃ g, SrO A B n m c d L H F G (i + 1) g wr ∧ MdI x y k L H i (p + 1) g ∧ Kp (FGN F G w0.heap.size) w0 wr ∧ BitR R (Y + 1) (-((p + 1 : Nat) : Int)) (fun _ => false) wr

set_option maxRecDepth 100000 in
set_option maxHeartbeats 3200000 in
theorem badvance_any (A B : Option Addr) (n m c d k F G i : Nat) (x y : List Int) (g : Nat → Int) (w0 w : World) (hx : x.length = n) (hy : y.length = m) (hn : n ≤ 1048576) (hm : m ≤ 1048576) (hk : apN n m ≤ k) (hd : m ≤ d)
    (r1 : Row w0 A (iv x)) (r2 : Row w0 B (iv y)) (hb : Below w0.heap.size w0 w) (hF : w0.heap.size ≤ F) (hG : w0.heap.size ≤ G) (h : SrO A B n m c d (sdL n m k) (sdH n m k) F G i g w) (hr : RwI x y k (sdL n m k) (sdH n m k) i g) (hi : i + 1 ≤ n) :
    Calls Try.prog 21 #[.pointer (some ⟨F, 0, none⟩)] w (AdvM A B n m c d k (sdL n m k) (sdH n m k) F G i x y w) := by
  have hmx : Try.prog.follows .mixedOrders = true := by kernel_rfl
  obtain ⟨i0, hi0, hz0, hz1, hz2⟩ := info_parts Try.infoWord
  obtain ⟨s1, s2, s3, s4⟩ := sd_le n m k
  have hfs := fs_ls (H := sdH n m k) s3 hi
  obtain ⟨L, hL⟩ : ∃ L, sdL n m k = L := ⟨_, rfl⟩
  obtain ⟨H, hH⟩ : ∃ H, sdH n m k = H := ⟨_, rfl⟩
  rw [hL] at s1 s3 hfs h hr ⊢
  rw [hH] at s2 s4 hfs h hr ⊢
  obtain ⟨p, hp⟩ : ∃ p, fsJ L (i + 1) = p + 1 := ⟨fsJ L (i + 1) - 1, by unfold fsJ; omega⟩
  obtain ⟨M, hE⟩ : ∃ M, lsJ H m (i + 1) = M + 1 := ⟨min (i + 1 + H) m, rfl⟩
  rw [hp, hE] at hfs
  have hE2 : M ≤ m ∧ M ≤ i + 1 + H ∧ (M = m ∨ M = i + 1 + H) := by unfold lsJ at hE; omega
  obtain ⟨Y, hY⟩ : ∃ Y, (M - p - 1) / 64 = Y := ⟨_, rfl⟩
  have HW : Hid (nwR L H m (i + 1) = Y + 1) := by show _ = _; unfold nwR; rw [hE, hp, ← hY]; congr 2; omega
  have hp2 : i ≤ p + L ∧ (p = 0 ∨ p + L = i) := by unfold fsJ at hp; omega
  obtain ⟨I, hI⟩ : ∃ I, i + 1 = I := ⟨_, rfl⟩
  obtain ⟨ga, oa, rfl, hca⟩ := (r1.below hb).int (k := i) (by omega)
  have HU : Hid (x[i]? = some x[i]) := List.getElem?_eq_getElem (by omega)
  generalize x[i] = u at *
  have CF := Lib.hid (fun w' q (h' : SrO (some ⟨ga, oa, none⟩) B n m c d L H F G I g w') => bfirst_quiet h' I (by omega) (by omega) q)
  rw [← hI] at CF
  rw [hp] at CF
  rw [hI] at CF
  have hS1 : ∀ q, SrO (some ⟨ga, oa, none⟩) B n m c d L H F G I g ((w.drewN q).setCell ⟨F, 4, none⟩ (.int .i64 (I : Int))) := fun q => (h.drewN q).row I
  have hK1 : Hid (∀ q, Kp (FGN F G w.heap.size) w ((w.drewN q).setCell ⟨F, 4, none⟩ (.int .i64 (I : Int)))) := fun q => (((Kp.refl (FGN F G w.heap.size) w).drewN q)).setCell (.inl rfl) _
  have HS1 := Lib.hid hS1
  have hGw : G < w.heap.size ∧ F < w.heap.size := ⟨h.lt.2, h.lt.1⟩
  have HBl : Hid (∀ w', Kp (FGN F G w.heap.size) w w' → Below w0.heap.size w0 w') := fun w' hk => hb.trans (hk.below (fun z e => by rcases e with e | e | e <;> (have := hb.size; omega)) hb.size)
  have c0 := h.c0
  have c4 := h.c4
  have f4 := h.obj.frozen 4
  have e1 : (i : Int) + 1 = (I : Int) := by omega
  clear r1 hb h hS1
  go_enter Try.func21, Try.ntmps21
  go_wp2_with fail
  go_quiet (fail)
  go_wp2_with fail
  have hS := HS1.out nq
  have HK := Lib.hid (hK1.out nq)
  clear HS1 hK1 c0 c4 f4 hca
  generalize (w.drewN nq).setCell ⟨F, 4, none⟩ (.int .i64 (I : Int)) = w1 at *
  have CF1 := Lib.hid (fun q => CF.out w1 q hS)
  have c0 := hS.c0
  have c1 := hS.c1
  have c3 := hS.c3
  have c4 := hS.c4
  have q1 : IntKind.i64.wrap ((I : Int) + (H : Int)) = (I : Int) + H := IntWalk.i64_in _ (by omega)
  have HSd : Hid (∀ q, SrO (some ⟨ga, oa, none⟩) B n m c d L H F G I g (w1.drewN q)) := fun q => hS.drewN q
  have HKd : Hid (∀ q, Kp (FGN F G w.heap.size) w (w1.drewN q)) := fun q => HK.out.drewN q
  clear hS HK CF
  go_quiet ((go_at_call 30; exact CF1.out _))
  generalize nq = n2
  have hLS : (if (m : Int) < (I : Int) + (H : Int) then (m : Int) else (I : Int) + (H : Int)) = (M : Int) := by split <;> omega
  rw [hLS]
  have hS := HSd.out n2
  have HK := Lib.hid (HKd.out n2)
  clear HSd HKd CF1 c0 c1 c3 c4 hLS
  generalize w1.drewN n2 = w2 at *
  obtain ⟨Z, hZ⟩ : ∃ Z : Int, (M : Int) - ((p + 1 : Nat) : Int) = Z := ⟨_, rfl⟩
  have hZ2 : (M : Int) - ((p : Int) + 1) = Z := by omega
  have z1 : IntKind.i64.wrap Z = Z := IntWalk.i64_in _ (by omega)
  have z3 : Z.tdiv 64 = (Y : Int) := by
    by_cases hz : 0 ≤ Z
    · rw [Int.tdiv_eq_ediv_of_nonneg hz]; omega
    · obtain rfl : Z = -1 := by omega
      rw [show (-1 : Int).tdiv 64 = 0 from by decide]; omega
  have hYb : Y ≤ 1048576 := by omega
  have HYb : Hid ((M - p - 1) / 64 = Y) := hY
  obtain ⟨R, hR⟩ : ∃ R, w2.heap.size = R := ⟨_, rfl⟩
  have HR := Lib.hid hR
  have HbN := Lib.hid (BitR.new w2 (Y + 1) (-((p + 1 : Nat) : Int)))
  have HS3 : Hid (SrO (some ⟨ga, oa, none⟩) B n m c d L H F G I g (w2.alloc (.cells (madeCells #[.int .u64 0] (Y + 1)) 55))) := hS.below ((Below.refl _ _).alloc (Nat.le_refl _) _)
  have HK3 : Hid (Kp (FGN F G w.heap.size) w (w2.alloc (.cells (madeCells #[.int .u64 0] (Y + 1)) 55))) := HK.out.alloc _
  have HRw : Hid (w.heap.size ≤ R) := by rw [← hR]; exact HK.out.size
  have HGR : Hid (G < R ∧ F < R) := by have := HRw.out; exact ⟨by omega, by omega⟩
  rw [hR] at HbN
  clear hS HK hY hR
  go_wp2_with (at_make; refine wpList_make_row _ rfl _ _ 41 rfl 55 i0 (.int .u64 0) Try.underlying41 hi0 hz0 hz1 rfl .i64 .i64 (Y + 1) rfl rfl (by rw [hz2]; omega) (by omega) ?_)
  rw [HR.out]
  have hS := HS3.out
  generalize w2.alloc (.cells (madeCells #[.int .u64 0] (Y + 1)) 55) = w3 at *
  have c2 := hS.c2
  have c4 := hS.c4
  have q2 : IntKind.i64.wrap ((I : Int) + -(L : Int)) = (I : Int) - L := (IntWalk.i64_in _ (by omega)).trans (by omega)
  have HS4 : Hid (∀ q, SrO (some ⟨ga, oa, none⟩) B n m c d L H F G I g (w3.drewN q)) := fun q => hS.drewN q
  have HK4 : Hid (∀ q, Kp (FGN F G w.heap.size) w (w3.drewN q)) := fun q => HK3.out.drewN q
  have HN4 : Hid (∀ q, BitR R (Y + 1) (-((p + 1 : Nat) : Int)) (fun _ => false) (w3.drewN q)) := fun q => HbN.out.kept ((Kp.refl (fun _ => False) _).drewN q) id
  clear hS HS3 HK3 HbN
  go_quiet (fail)
  generalize nq = n3
  have hS := HS4.out n3
  have HK := Lib.hid (HK4.out n3)
  have HN := Lib.hid (HN4.out n3)
  clear HS4 HK4 HN4 c2 c4
  generalize w3.drewN n3 = w4 at *
  go_upto_if 66 with (fail)
  go_cut [] (fun wx => AdI (some ⟨ga, oa, none⟩) B n m c d k L H F G i R Y p x y w wx)
  case first =>
    have HI0 : Hid (AdI (some ⟨ga, oa, none⟩) B n m c d k L H F G i R Y p x y w w4 ∨ I ≤ L) := by
      by_cases e : I ≤ L
      · exact .inr e
      · refine .inl ⟨g, by rw [hI]; exact hS, ?_, HK.out, HN.out⟩
        have := md_start hr (by omega) (g' := g) fun t _ => by rw [if_neg (by omega)]
        rw [hp] at this
        exact this
    by_cases hle : I ≤ L
    · clear HI0
      obtain ⟨t, ht⟩ : ∃ t, L - i = t := ⟨_, rfl⟩
      have CP := Lib.hid (bplace_any (hS.drewN 1) 0 t (by omega) (by omega) (by omega) (by omega))
      obtain ⟨N, hN⟩ : ∃ N, L + H + 3 = N := ⟨_, rfl⟩
      have htN : t < N := by omega
      have hix : 0 ≤ (t : Int) ∧ (t : Int) < (N : Int) := by omega
      have c5 := hS.c5
      have c4 := hS.c4
      rw [hN] at c5
      have HT0 : Hid (AdT I F G N w4.drew) := ⟨c5, c4⟩
      have HT1 : Hid (∀ q, AdT I F G N ((w4.drewN 1).drewN q)) := fun _ => ⟨c5, c4⟩
      have HZ : Hid (∀ q, ((w4.drewN 1).drewN q).cell? ⟨G, t, none⟩ = some (.int .i64 (g t)) ∧ ((w4.drewN 1).drewN q).frozen? ⟨G, t, none⟩ = false) := fun q => ⟨hS.at (t := t) (by omega), hS.far.frozen t⟩
      have hP : ∀ q, SrO (some ⟨ga, oa, none⟩) B n m c d L H F G I (fun s => if s = t then (I : Int) else g s) (((w4.drewN 1).drewN q).setCell ⟨G, t, none⟩ (.int .i64 (I : Int))) := fun q => ((hS.drewN 1).drewN q).put t (I : Int)
      have HP : Hid (∀ q, AdT I F G N (((w4.drewN 1).drewN q).setCell ⟨G, t, none⟩ (.int .i64 (I : Int)))) := fun q => by
        have q5 := (hP q).c5
        rw [hN] at q5
        exact ⟨q5, (hP q).c4⟩
      have HR : Hid (∀ q, AdI (some ⟨ga, oa, none⟩) B n m c d k L H F G i R Y p x y w (((w4.drewN 1).drewN q).setCell ⟨G, t, none⟩ (.int .i64 (I : Int)))) := fun q => by
        have kG : Kp (fun k => k = G) w4 (((w4.drewN 1).drewN q).setCell ⟨G, t, none⟩ (.int .i64 (I : Int))) := (((Kp.refl (fun k => k = G) w4).drewN 1).drewN q).setCell (a := ⟨G, t, none⟩) rfl _
        refine ⟨_, by rw [hI]; exact hP q, ?_, HK.out.trans (kG.mono fun k e => .inr (.inl e)), HN.out.kept kG (by have := HGR.out; omega)⟩
        have := md_start hr (by omega) (g' := fun s => if s = t then (I : Int) else g s) fun s _ => by
          by_cases e : s = t
          · simp only [if_pos e]
            rw [if_pos (by omega), hI]
          · simp only [if_neg e]
            rw [if_neg (by omega)]
        rw [hp] at this
        exact this
      clear hS HK HN hP c4 c5 ht hN
      go_wp2_with fail

      refine wp_region_held (S := AdT I F G N) hmx ?_
      refine wpAnyH_take (i := 0) (v := ?v1) rfl (by kernel_rfl) (by kernel_rfl) (by kernel_rfl) (fun _ _ _ h => h) (.inl ⟨by kernel_rfl, ?y1⟩) HT0.out ?_
      case y1 =>
        rintro w' ⟨s5, s4⟩
        go_simp
        first | done | with_reducible rfl | rfl
      try simp only [Act.put]
      refine wpAnyH_take (i := 1) (v := ?v2) rfl (by kernel_rfl) (by kernel_rfl) (by kernel_rfl) (fun _ _ _ h => h) (.inl ⟨by kernel_rfl, ?y2⟩) HT0.out ?_
      case y2 =>
        rintro w' ⟨s5, s4⟩
        go_simp
        first | done | with_reducible rfl | rfl
      try simp only [Act.put]
      refine wpAnyH_take (i := 2) (v := ?v3) rfl (by kernel_rfl) (by kernel_rfl) (by kernel_rfl) (fun _ _ _ h => h) (.inl ⟨by kernel_rfl, ?y3⟩) HT0.out ?_
      case y3 =>
        rintro w' ⟨s5, s4⟩
        go_simp
        first | done | with_reducible rfl | rfl
      try simp only [Act.put]
      refine wpAnyH_take (i := 3) (v := ?v4) rfl (by kernel_rfl) (by kernel_rfl) (by kernel_rfl) (fun _ _ _ h => h) (.inl ⟨by kernel_rfl, ?y4⟩) HT0.out ?_
      case y4 =>
        rintro w' ⟨s5, s4⟩
        go_simp
        first | done | with_reducible rfl | rfl
      try simp only [Act.put]
      refine wpAnyH_take (i := 4) (v := ?v5) rfl (by kernel_rfl) (by kernel_rfl) (by kernel_rfl) (fun _ _ _ h => h) (.inl ⟨by kernel_rfl, ?y5⟩) HT0.out ?_
      case y5 =>
        rintro w' ⟨s5, s4⟩
        go_simp
        first | done | with_reducible rfl | rfl
      try simp only [Act.put]
      refine wpAnyH_take (i := 6) (v := ?v6) rfl (by kernel_rfl) (by kernel_rfl) (by kernel_rfl) (fun _ _ _ h => h) (.inl ⟨by kernel_rfl, ?y6⟩) HT0.out ?_
      case y6 =>
        rintro w' ⟨s5, s4⟩
        go_simp
        first | done | with_reducible rfl | rfl
      try simp only [Act.put]
      refine wpAnyH_take (i := 7) (v := ?v7) rfl (by kernel_rfl) (by kernel_rfl) (by kernel_rfl) (fun _ _ _ h => h) (.inl ⟨by kernel_rfl, ?y7⟩) HT0.out ?_
      case y7 =>
        rintro w' ⟨s5, s4⟩
        go_simp
        first | done | with_reducible rfl | rfl
      try simp only [Act.put]
      refine wpAnyH_take (i := 8) (v := ?v8) rfl (by kernel_rfl) (by kernel_rfl) (by kernel_rfl) (fun _ _ _ h => h) (.inl ⟨by kernel_rfl, ?y8⟩) HT0.out ?_
      case y8 =>
        rintro w' ⟨s5, s4⟩
        go_simp
        first | done | with_reducible rfl | rfl
      try simp only [Act.put]
      refine wpAnyH_take (i := 9) (v := ?v9) rfl (by kernel_rfl) (by kernel_rfl) (by kernel_rfl) (fun _ _ _ h => h) (.inl ⟨by kernel_rfl, ?y9⟩) HT0.out ?_
      case y9 =>
        rintro w' ⟨s5, s4⟩
        go_simp
        first | done | with_reducible rfl | rfl
      try simp only [Act.put]
      refine held_one (i := 5) (by kernel_rfl) rfl (by kernel_rfl) ?_
      unfold Oper.wp
      go_simp
      refine (CP.out).mono ?_
      rintro e w5 ⟨rfl, q, rfl⟩
      have HTq := Lib.hid (HT1.out q)
      obtain ⟨z5, z6⟩ := HZ.out q
      have HRq := Lib.hid (HR.out q)
      have HPq := Lib.hid (HP.out q)
      clear CP HT0 HT1 HZ HR HP
      generalize (w4.drewN 1).drewN q = wz at *
      refine ⟨HTq.out, ?_⟩
      try simp only [Act.put]
      refine wpAnyH_take (i := 10) (v := ?v10) rfl (by kernel_rfl) (by kernel_rfl) (by kernel_rfl) (fun _ _ _ h => h) (.inl ⟨by kernel_rfl, ?y10⟩) HTq.out ?_
      case y10 =>
        rintro w' ⟨s5, s4⟩
        go_simp
        try simp only [if_pos hix]
        first | done | with_reducible rfl | rfl
      try simp only [Act.put]
      refine held_one (i := 11) (by kernel_rfl) rfl (by rfl) ?_
      unfold Oper.wp
      go_simp
      refine ⟨HPq.out, ?_⟩
      refine held_done (by kernel_rfl) ?_
      clear z5 z6 HPq HTq
      go_wp2_with fail
      go_meet
      exact HRq.out
    · have HI1 := Lib.hid (HI0.out.resolve_right hle)
      clear HI0 hS HK HN
      go_wp2_with fail
      go_meet
      exact HI1.out
  case rest =>
    obtain ⟨g1, hS, hM, hKc, hNc⟩ := hcut
    rw [hI] at hS
    obtain ⟨N, hN⟩ : ∃ N, L + H + 3 = N := ⟨_, rfl⟩
    have HNe := Lib.hid hN
    obtain ⟨P0, hP0⟩ : ∃ z, p + 1 + L - i = z := ⟨_, rfl⟩
    obtain ⟨P1, hP1⟩ : ∃ z, p + L - i = z := ⟨_, rfl⟩
    obtain ⟨D, hD⟩ : ∃ z, M - p = z := ⟨_, rfl⟩
    have hP0N : P0 < N := by omega
    have hP1N : P1 < N := by omega
    have hNb : N ≤ 4194304 := by omega
    have e9 : IntKind.i64.wrap ((p : Int) + 1 - 1) = (p : Int) := (IntWalk.i64_in _ (by omega)).trans (by omega)
    have e8 : IntKind.i64.wrap (p : Int) = (p : Int) := IntWalk.i64_in _ (by omega)
    have CP0 := Lib.hid (fun q => bplace_quiet hS ((p : Int) + 1) P0 (by omega) (by omega) (by omega) (by omega) q)
    have CP1 := Lib.hid (fun q q' => bplace_quiet (hS.drewN q) (p : Int) P1 (by omega) (by omega) (by omega) (by omega) q')
    have SL0 := slice_fromG G N P0 hP0N
    obtain ⟨B', cb, SLm, rB⟩ := slice_mid B m d p D y w0 r2 hy hd (by omega)
    rw [show (p : Int) + (D : Int) = (M : Int) by omega] at SLm
    have HBo' : Hid (∀ w', Kp (FGN F G w.heap.size) w w' → Row w' B' (iv ((y.drop p).take D))) := fun w' hk => rB.below (HBl.out w' hk)
    have HYl : Hid (((y.drop p).take D).length = D) := by show _ = _; rw [List.length_take, List.length_drop, hy]; omega
    have HYg : Hid (∀ a v, ((y.drop p).take D)[a]? = some v → a < D → y[p + a]? = some v) := fun a v h ha => by
      rw [List.getElem?_take, if_pos ha, List.getElem?_drop] at h
      exact h
    generalize (y.drop p).take D = yy at *
    have c5 := hS.c5
    have c1 := hS.c1
    rw [hN] at c5
    have ca := hS.at (t := P1) (by omega)
    have HI : Hid (∀ q, AdRl (some ⟨ga, oa, none⟩) B n m c d k L H F G i R (Y + 1) p D x y w (.int .i64 0) (.int .i64 (g1 P1)) (wc.drewN q)) := fun q =>
      ⟨0, g1, _, Nat.zero_le _, rfl, by rw [Nat.add_zero, hP1], by rw [hI]; exact hS.drewN q, hM, hNc.kept ((Kp.refl (fun _ => False) _).drewN q) id, by have := wy_start (x := x) (y := y) (k := k) (L := L) (H := H) (i := i) (f := fun _ => false); rw [hp] at this; exact this, fun _ _ => rfl, hKc.drewN q⟩
    clear hS hM hKc hNc rB
    go_wp2_with fail
    go_quiet ((go_at_call 29; exact CP0.out _))
    generalize nq = n7
    have CP2 := Lib.hid (CP1.out n7)
    have HI0 : Hid (∀ q, AdRl (some ⟨ga, oa, none⟩) B n m c d k L H F G i R (Y + 1) p D x y w (.int .i64 0) (.int .i64 (g1 P1)) ((wc.drewN n7).drewN q)) := fun q => by
      rw [World.drewN_drewN]
      exact HI.out _
    have ca' : (wc.drewN n7).cell? ⟨G, P1, none⟩ = some (.int .i64 (g1 P1)) := ca
    have c5' : (wc.drewN n7).cell? ⟨F, 5, none⟩ = some (.slice (some ⟨G, 0, none⟩) N N) := c5
    have c1' : (wc.drewN n7).cell? ⟨F, 1, none⟩ = some (.slice B m d) := c1
    clear CP0 CP1 HI ca c5 c1
    generalize wc.drewN n7 = wd at *
    go_wp2_with fail
    go_quiet ((go_at_call 29; exact CP2.out _))
    generalize nq = n8
    have HI1 := Lib.hid (HI0.out n8)
    have c1'' : (wd.drewN n8).cell? ⟨F, 1, none⟩ = some (.slice B m d) := c1'
    clear HI0 CP2 ca' c5' c1'
    generalize wd.drewN n8 = we at *
    go_wp2_with fail
    go_loopw [8, 105] (fun ac s wr => AdRl (some ⟨ga, oa, none⟩) B n m c d k L H F G i R (Y + 1) p D x y w s ac wr) (fun _ s _ => D - (intOf s).toNat)
    case atStart => exact HI1.out
    case round =>
      clear HI1
      obtain ⟨a, g2, f2, ha, rfl, rfl, hA⟩ := hrel
      by_cases hlt : a < D
      · have hyl : a < yy.length := by rw [HYl.out]; exact hlt
        obtain ⟨gb, ob, rfl, hcb⟩ := (HBo'.out wr hA.keep).int (k := a) hyl
        have HV := Lib.hid (HYg.out a _ (List.getElem?_eq_getElem hyl) hlt)
        generalize yy[a] = v at *
        have l1 := hA.mid.lo (p + a + 1 + L - i) (by omega)
        have l2 := hA.mid.lo (p + a + L - i) (by omega)
        have l3 := hA.mid.lo (p + a + L + 2 - i) (by omega)
        rw [hx, hy] at l1 l2 l3
        have k1 : wr.cell? ⟨G, P0 + a, none⟩ = some (.int .i64 (g2 (p + a + 1 + L - i))) := by
          rw [show P0 + a = p + a + 1 + L - i by omega]
          exact hA.row.at (by omega)
        have k3 : wr.cell? ⟨G, P0 + (a + 1), none⟩ = some (.int .i64 (g2 (p + a + L + 2 - i))) := by
          rw [show P0 + (a + 1) = p + a + L + 2 - i by omega]
          exact hA.row.at (by omega)
        have k4 := hA.row.far.frozen (P0 + a)
        have HNx : Hid (∀ q w2 z, Kp (fun b => b = R) (wr.drewN q) w2 → BitR R (Y + 1) (-((p + 1 : Nat) : Int)) (fun κ => if κ = ((p + a + 1 : Nat) : Int) then decide (g2 (p + a + L - i) < g2 (p + a + L + 2 - i)) else f2 κ) w2 → z = bnV u v (g2 (p + a + 1 + L - i)) (g2 (p + a + L - i)) (g2 (p + a + L + 2 - i)) → AdRl (some ⟨ga, oa, none⟩) B n m c d k L H F G i R (Y + 1) p D x y w (.int .i64 ((a + 1 : Nat) : Int)) (.int .i64 z) (w2.setCell ⟨G, P0 + a, none⟩ (.int .i64 z))) := fun q w2 z e1 e2 e3 =>
          (hA.drewN q).next (by rw [hx, hy]; exact hk) (by rw [hx, hy]; exact hL.symm) (by rw [hx, hy]; exact hH.symm) (by omega) (by omega) (by omega) (by omega) HU.out HV.out hGw.1 hGw.2 HRw.out (by omega) hlt e1 e2 e3
        have HBf : Hid (g2 (p + a + L + 2 - i) ≤ g2 (p + a + L - i) → ∀ q, BitR R (Y + 1) (-((p + 1 : Nat) : Int)) (fun κ => if κ = ((p + a + 1 : Nat) : Int) then decide (g2 (p + a + L - i) < g2 (p + a + L + 2 - i)) else f2 κ) (wr.drewN q)) := fun e q =>
          ((hA.drewN q).bits).congr fun κ => by
            by_cases ek : κ = ((p + a + 1 : Nat) : Int)
            · rw [if_pos ek, hA.zero κ (by omega), decide_eq_false (by omega)]
            · rw [if_neg ek]
        obtain ⟨W, b1, b2, b3⟩ := hA.bits
        obtain ⟨Q, hQ⟩ : ∃ z, a / 64 = z := ⟨_, rfl⟩
        obtain ⟨r, hr'⟩ : ∃ z, a % 64 = z := ⟨_, rfl⟩
        have hQN : Q < Y + 1 := by have := HYb.out; omega
        have h64 : r < 64 := by omega
        have HBt : Hid (g2 (p + a + L - i) < g2 (p + a + L + 2 - i) → ∀ q z, z = ((W Q ||| 2 ^ r : Nat) : Int) → BitR R (Y + 1) (-((p + 1 : Nat) : Int)) (fun κ => if κ = ((p + a + 1 : Nat) : Int) then decide (g2 (p + a + L - i) < g2 (p + a + L + 2 - i)) else f2 κ) ((wr.drewN q).setCell ⟨R, Q, none⟩ (.int .u64 z)).drew) := fun e q z ez => by
          subst ez
          have h1 : (wr.drewN q).rowIs R 55 (Y + 1) (fun t => .int .u64 (W t : Nat)) := b1
          refine ((bit_set h1 b2 b3 h64 (k := ((p + a + 1 : Nat) : Int)) (by omega)).kept ((Kp.refl (fun _ => False) _).drewN 1) id).congr fun κ => ?_
          by_cases ek : κ = ((p + a + 1 : Nat) : Int)
          · rw [if_pos ek, if_pos ek, decide_eq_true e]
          · rw [if_neg ek, if_neg ek]
        have b4 := World.rowIs.cell b1 hQN
        have b5 := World.rowIs.frozen b1 Q
        have HO := Lib.hid (or_bit (W Q) r (b2 Q) h64)
        have hRG : R ≠ G := by have := HGR.out; omega
        have y1 : (a : Int) / 64 = (Q : Int) := by omega
        have y2 : (a : Int) % 64 = (r : Int) := by omega
        have y3 : (a : Int).tdiv 64 = (Q : Int) := by rw [Int.tdiv_eq_ediv_of_nonneg (by omega)]; exact y1
        have y4 : (a : Int).tmod 64 = (r : Int) := by rw [Int.tmod_eq_emod_of_nonneg (by omega)]; exact y2
        have haN : P0 + a + 1 < N := by omega
        have ha1 : a < N - P0 := by omega
        have ha2 : a + 1 < N - P0 := by omega
        clear hA b1 b2 b3 hr' hQ
        generalize W Q = wv at *
        generalize g2 (p + a + 1 + L - i) = he at *
        generalize g2 (p + a + L - i) = le at *
        generalize g2 (p + a + L + 2 - i) = up at *
        replace l1 : 0 ≤ he ∧ he ≤ 8388608 := ⟨l1.1, by have := l1.2.1; omega⟩
        replace l2 : 0 ≤ le ∧ le ≤ 8388608 := ⟨l2.1, by have := l2.2.1; omega⟩
        replace l3 : 0 ≤ up ∧ up ≤ 8388608 := ⟨l3.1, by have := l3.2.1; omega⟩
        have hm2 : M ≤ 1048576 := by omega
        have hab : a ≤ 1048576 := by omega
        clear hx hy hn hk hd r2 hF hG hi hi0 hz0 hz1 hz2 s3 s1 hL hr s4 s2 hH hp hfs hE hE2 hp2 hI q1 hZ hZ2 z1 z3 q2 hS HK HN hN hP0 hP1 hD SL0 SLm e9 e8 c1'' HBo' HYg HYl HV HU HBl hGw hYb ha hm HW HR HRw HGR e1
        go_wp2_with fail
        go_quiet (fail)
        generalize nq = n12
        have HN2 := Lib.hid (HNx.out n12)
        have HT2 := Lib.hid (fun e => HBt.out e n12)
        have HF2 := Lib.hid (fun e => HBf.out e n12)
        have c1 : (wr.drewN n12).cell? ⟨G, P0 + a, none⟩ = some (.int .i64 he) := k1
        have c2 : (wr.drewN n12).frozen? ⟨G, P0 + a, none⟩ = false := k4
        have c3 : (wr.drewN n12).cell? ⟨R, Q, none⟩ = some (.int .u64 (wv : Int)) := b4
        have c4 : (wr.drewN n12).frozen? ⟨R, Q, none⟩ = false := b5
        clear HNx HBt HBf k1 k3 k4 b4 b5 hcb
        generalize wr.drewN n12 = wq at *
        by_cases hcmp : le < up
        · have HN3 : Hid (∀ z z2, z = ((wv ||| 2 ^ r : Nat) : Int) → z2 = bnV u v he le up → AdRl (some ⟨ga, oa, none⟩) B n m c d k L H F G i R (Y + 1) p D x y w (.int .i64 ((a + 1 : Nat) : Int)) (.int .i64 z2) (((wq.setCell ⟨R, Q, none⟩ (.int .u64 z)).drew).setCell ⟨G, P0 + a, none⟩ (.int .i64 z2))) := fun z z2 e1 e2 =>
            HN2.out _ z2 (((Kp.refl (fun b => b = R) wq).setCell (a := ⟨R, Q, none⟩) rfl _).drewN 1) (HT2.out hcmp z e1) e2
          have d1 : Hid (∀ z, ((wq.setCell ⟨R, Q, none⟩ (.int .u64 z)).drew).cell? ⟨G, P0 + a, none⟩ = some (.int .i64 he)) := fun z => (World.cell?_of_block (a := ⟨G, P0 + a, none⟩) (Below.heap_setCell wq ⟨R, Q, none⟩ _ G (Ne.symm hRG))).trans c1
          have d2 : Hid (∀ z, ((wq.setCell ⟨R, Q, none⟩ (.int .u64 z)).drew).frozen? ⟨G, P0 + a, none⟩ = false) := fun z => (World.frozen?_of_block (a := ⟨G, P0 + a, none⟩) (Below.heap_setCell wq ⟨R, Q, none⟩ _ G (Ne.symm hRG))).trans c2
          clear HN2 HT2 HF2 c1 c2
          go_wp2_with fail
          go_region
          have c1 := d1.out (bits .or .u64 (wv : Int) (IntKind.u64.wrap (2 ^ r)))
          have c2 := d2.out (bits .or .u64 (wv : Int) (IntKind.u64.wrap (2 ^ r)))
          have HN4 := Lib.hid (fun z2 e2 => HN3.out _ z2 HO.out e2)
          clear d1 d2 HN3 HO c3 c4
          generalize (wq.setCell ⟨R, Q, none⟩ (.int .u64 (bits .or .u64 (wv : Int) (IntKind.u64.wrap (2 ^ r))))).drew = wr2 at *
          by_cases huv : v = u
          · subst huv
            have HV : Hid (∀ z2, z2 = he → z2 = bnV v v he le up) := fun z2 e => by rw [e]; unfold bnV; rw [if_pos rfl]
            go_wp2_with fail
            go_roundw
            case rel => exact HN4.out _ (HV.out _ rfl)
            case measure => simp [intOf]; omega
          · have hz : (v == u) = false := by simpa using huv
            have HV : Hid (∀ z2, z2 = min le up + 1 → z2 = bnV u v he le up) := fun z2 e => by rw [e]; unfold bnV; rw [if_neg huv]
            clear huv
            go_wp2_with fail
            go_roundw
            case rel => exact HN4.out _ (HV.out _ (by omega))
            case measure => simp [intOf]; omega
        · have HN4 : Hid (∀ z2, z2 = bnV u v he le up → AdRl (some ⟨ga, oa, none⟩) B n m c d k L H F G i R (Y + 1) p D x y w (.int .i64 ((a + 1 : Nat) : Int)) (.int .i64 z2) (wq.setCell ⟨G, P0 + a, none⟩ (.int .i64 z2))) := fun z2 e2 =>
            HN2.out _ z2 (Kp.refl _ _) (HF2.out (by omega)) e2
          clear HN2 HT2 HF2 HO c3 c4
          have hmin : (if up < le then up else le) = up := by split <;> omega
          by_cases huv : v = u
          · subst huv
            have HV : Hid (∀ z2, z2 = he → z2 = bnV v v he le up) := fun z2 e => by rw [e]; unfold bnV; rw [if_pos rfl]
            go_wp2_with fail
            all_goals
              go_roundw
              case rel => exact HN4.out _ (HV.out _ rfl)
              case measure => simp [intOf]; omega
          · have hz : (v == u) = false := by simpa using huv
            have HV : Hid (∀ z2, z2 = min le up + 1 → z2 = bnV u v he le up) := fun z2 e => by rw [e]; unfold bnV; rw [if_neg huv]
            clear huv
            go_wp2_with fail
            all_goals
              go_roundw
              case rel => exact HN4.out _ (HV.out _ (by omega))
              case measure => simp [intOf]; omega
      · obtain rfl : a = D := by omega
        have HF : Hid (AdvM (some ⟨ga, oa, none⟩) B n m c d k L H F G i x y w (.returned (.slice (some ⟨R, 0, none⟩) (Y + 1) (Y + 1))) wr) := by
          have e : p + a + 1 = M + 1 := by omega
          have hM := hA.mid
          have hWy := hA.way
          rw [e] at hM hWy
          rw [← hE, ← hy] at hM
          have hN' := hA.keep
          refine ⟨R, by rw [HW.out], ⟨⟨g2, hA.row, md_end hM⟩, ⟨f2, by rw [HW.out, hp]; exact hA.bits, by rw [hE]; exact hWy⟩, ⟨hN'.os, hN'.tape, hN'.output, hN'.size, fun z hz hS => hN'.block z hz (fun e => ?_)⟩, HRw.out⟩⟩
          rcases e with e | e | e
          · exact hS (.inl e)
          · exact hS (.inr e)
          · omega
        clear hA
        go_wp2_with fail
        go_ret
        exact HF.out
end Go.Proofs.Ythpinbmimgojnaa
