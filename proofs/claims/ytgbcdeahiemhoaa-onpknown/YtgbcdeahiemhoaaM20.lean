/-
  Words and contracts that the proof leans on.
-/
import Derived.Test.YtgbcdeahiemhoaaM15
import Derived.Test.YtgbcdeahiemhoaaM17
import Derived.Test.YtgbcdeahiemhoaaM19
import Derived.Test.YtgbcdeahiemhoaaM6
import Derived.OrdersHeld
import Derived.Test.YtgbcdeahiemhoaaM14
namespace Go.Proofs.Ytgbcdeahiemhoaa
open Go.RowKit

/-- What newFront leaves. -/
def NfMade (A B : Option Addr) (n m c d W : Nat) (w : World) (e : Ending) (w' : World) : Prop :=
  ∃ F G, e = .returned (.pointer (some ⟨F, 0, none⟩)) ∧ FrO A B n m c d W F G (-1) (fun _ => -1) w' ∧ w.heap.size ≤ F ∧ w.heap.size ≤ G ∧ Below w.heap.size w w'

set_option maxRecDepth 100000 in
theorem newFront_any (A B : Option Addr) (n m c d W : Nat) (w : World) (hn : n ≤ 1048576) (hm : m ≤ 1048576) (hW : n + W = m) :
    Calls Try.prog 23 #[.slice A n c, .slice B m d] w (NfMade A B n m c d W w) := by
  have C := Lib.hid (repeat_any w.heap.size 1 (n + m + 3) (-1) (w.alloc (.cells #[.int .i64 (-1)] 3)) (by have := cell_one_new w (.int .i64 (-1)) 3 0 _ rfl; rw [Addr.add_lit] at this; exact this) (by omega) (by omega))
  obtain ⟨N, hN⟩ : ∃ N, n + m + 3 = N := ⟨_, rfl⟩
  have HN := Lib.hid hN
  have e1 : (n : Int) + (m : Int) + 3 = (N : Int) := by omega
  have e2 : (m : Int) - (n : Int) = (W : Int) := by omega
  have hNb : N ≤ 4194304 := by omega
  rw [hN] at C
  clear hN
  go_enter Try.func23, Try.ntmps23
  go_wp2_with fail
  refine C.out.mono ?_
  rintro e w2 ⟨rfl, hr, hb⟩
  have hB : Below w.heap.size w w2 := ((Below.refl _ _).alloc (Nat.le_refl _) _).trans (hb.mono (by simp))
  have hsz : w.heap.size ≤ (w.alloc (.cells #[.int .i64 (-1)] 3)).heap.size := by simp
  generalize (w.alloc (.cells #[.int .i64 (-1)] 3)).heap.size = G at *
  have HF : Hid (NfMade A B n m c d W w (.returned (.pointer (some ⟨w2.heap.size, 0, none⟩))) (w2.alloc (.cells #[.slice A n c, .slice B m d, .int .i64 (W : Int), .int .i64 (-1), .slice (some ⟨G, 0, none⟩) N N] 46))) := by
    refine ⟨w2.heap.size, G, rfl, ⟨?_, ?_⟩, hB.size, hsz, hB.alloc hB.size _⟩
    · rw [HN.out]
      exact World.rowIs_alloc w2 _ _ _ (cv5_cases rfl rfl rfl rfl rfl)
    · rw [HN.out]
      exact hr.alloc _
  clear C hr hb hB hsz HN
  go_wp2_with fail
  go_ret
  exact HF.out


/-- What move does. -/
def mvJ (x y : List Int) (n m : Nat) (k : Int) (g : Nat → Int) (t : Nat) : Int := slI x y k (min (min (max (g t + 1) (g (t + 2))) (k + n)) m)
def MvMade (x y : List Int) (n m G t : Nat) (k : Int) (g : Nat → Int) (w : World) (e : Ending) (w' : World) : Prop :=
  e = .returned (.bool (decide (g (t + 2) < g t + 1))) ∧ ∃ q, w' = (w.drewN q).setCell ⟨G, t + 1, none⟩ (.int .i64 (mvJ x y n m k g t))
/-- What the loads read. -/
def MvS (A B : Option Addr) (n m c d F G N : Nat) (w : World) : Prop := w.cell? ⟨F, 0, none⟩ = some (.slice A n c) ∧ w.cell? ⟨F, 1, none⟩ = some (.slice B m d) ∧ w.cell? ⟨F, 4, none⟩ = some (.slice (some ⟨G, 0, none⟩) N N)
theorem MvS.set {A B : Option Addr} {n m c d F G N : Nat} {w : World} (h : MvS A B n m c d F G N w) (hne : F ≠ G) (i : Nat) (v : Value) : MvS A B n m c d F G N (w.setCell ⟨G, i, none⟩ v) := by
  have e : ∀ j, (w.setCell ⟨G, i, none⟩ v).cell? ⟨F, j, none⟩ = w.cell? ⟨F, j, none⟩ := fun j => World.cell?_of_block (a := ⟨F, j, none⟩) (Below.heap_setCell w ⟨G, i, none⟩ v F hne)
  exact ⟨(e 0).trans h.1, (e 1).trans h.2.1, (e 4).trans h.2.2⟩

set_option maxRecDepth 100000 in
set_option maxHeartbeats 1600000 in
theorem move_any (A B : Option Addr) (n m c d W F G t : Nat) (p k : Int) (x y : List Int) (g : Nat → Int) (w : World) (hx : x.length = n) (hy : y.length = m) (hc : n ≤ c) (hd : m ≤ d) (hb : n ≤ 1048576) (hb' : m ≤ 1048576) (h1 : Row w A (iv x)) (h2 : Row w B (iv y)) (h : FrO A B n m c d W F G p g w)
    (hk : k + (n : Int) = (t : Int)) (ht : t ≤ n + m) (hg : ∀ s, s < n + m + 3 → -1 ≤ g s ∧ g s ≤ (m : Int)) :
    Calls Try.prog 36 #[.pointer (some ⟨F, 0, none⟩), .int .i64 k] w (MvMade x y n m G t k g w) := by
  have hmx : Try.prog.follows .mixedOrders = true := by kernel_rfl
  obtain ⟨u1, u2⟩ := hg t (by omega)
  obtain ⟨v1, v2⟩ := hg (t + 2) (by omega)
  have a1 := h.at (t := t) (by omega)
  have a2 := h.at (t := t + 2) (by omega)
  have a3 := h.at (t := t + 1) (by omega)
  have f3 := h.far.frozen (t + 1)
  have HNE := Lib.hid h.ne
  have c0 := h.c0
  have c1 := h.c1
  have c4 := h.c4
  have HP := Lib.hid (oplace_any A n c F (t + 1) k w h.c0 (by omega) (by omega))
  obtain ⟨N, hN⟩ : ∃ N, n + m + 3 = N := ⟨_, rfl⟩
  have HN := Lib.hid hN
  have hNb : t + 2 < N := by omega
  have hNc : N ≤ 4194304 := by omega
  rw [hN] at c4
  have HS : Hid (MvS A B n m c d F G N w) := ⟨c0, c1, c4⟩
  clear hN h hg
  have HM : Hid (∀ (b : Bool) (w' : World), b = decide (g (t + 2) < g t + 1) → (∃ q, w' = (w.drewN q).setCell ⟨G, t + 1, none⟩ (.int .i64 (mvJ x y n m k g t))) → MvMade x y n m G t k g w (.returned (.bool b)) w') := fun b w' q1 q2 => ⟨by rw [q1], q2⟩
  have HJ : Hid (∀ j, j = min (min (max (g t + 1) (g (t + 2))) (k + n)) m → mvJ x y n m k g t = slI x y k j) := fun j hj => by rw [hj]; rfl
  generalize mvJ x y n m k g t = D at *
  generalize g t = U at *
  generalize g (t + 2) = V at *
  generalize g (t + 1) = Z at *
  have CS := Lib.hid (fun q q' j => slide_any A B n m c d k j x y ((w.drewN q).drewN q').drew hx hy hc hd hb hb' ((h1.drewN q).drewN q').drew ((h2.drewN q).drewN q').drew)
  clear h1 h2 hx hy hc hd
  go_enter Try.func36, Try.ntmps36
  go_wp2_with fail
  refine HP.out.mono ?_
  rintro e w1 ⟨rfl, rfl⟩
  clear HP
  go_wp2_with fail
  go_quiet (fail)
  generalize nq = q1
  go_wp2_with fail
  go_quiet (fail)
  generalize hM : (if U + 1 < V then V else U + 1) = M
  generalize hJ : (if (m : Int) < if (t : Int) < M then (t : Int) else M then (m : Int) else if (t : Int) < M then (t : Int) else M) = J
  have HJ2 := Lib.hid (HJ.out J (by rw [← hJ, ← hM]; split <;> (split <;> (split <;> omega))))
  have HS1 : Hid (∀ r, MvS A B n m c d F G N (((w1.drewN q1).drewN nq).drew.drewN r)) := fun _ => HS.out
  have HS0 : Hid (MvS A B n m c d F G N ((w1.drewN q1).drewN nq).drew) := HS.out
  have HA : Hid (∀ r, (((w1.drewN q1).drewN nq).drew.drewN r).cell? ⟨G, t + 1, none⟩ = some (.int .i64 Z) ∧ (((w1.drewN q1).drewN nq).drew.drewN r).frozen? ⟨G, t + 1, none⟩ = false) := fun _ => ⟨a3, f3⟩
  have HD : Hid (∀ r, ∃ q, ((w1.drewN q1).drewN nq).drew.drewN r = w1.drewN q) := fun r => ⟨q1 + nq + 1 + r, by simp [World.drewN, World.drew, Nat.add_assoc]⟩
  have C1 := Lib.hid (CS.out q1 nq J)
  rw [HJ2.out.symm] at C1
  have hix : 0 ≤ (t : Int) + 1 ∧ (t : Int) + 1 < (N : Int) := by omega
  clear CS HS HJ HJ2 hJ hM a1 a2 a3 f3 c0 c1 c4
  go_wp2_with fail
  generalize (w1.drewN q1).drewN nq = wy at *

  refine wp_region_held (S := MvS A B n m c d F G N) hmx ?_
  refine wpAnyH_take (i := 0) (v := ?v1) rfl (by kernel_rfl) (by kernel_rfl) (by kernel_rfl) (fun _ _ _ h => h) (.inl ⟨by kernel_rfl, ?y1⟩) HS0.out ?_
  case y1 =>
    rintro w' ⟨s0, s1, s4⟩
    go_simp
    first | done | with_reducible rfl | rfl
  try simp only [Act.put]
  refine wpAnyH_take (i := 1) (v := ?v2) rfl (by kernel_rfl) (by kernel_rfl) (by kernel_rfl) (fun _ _ _ h => h) (.inl ⟨by kernel_rfl, ?y2⟩) HS0.out ?_
  case y2 =>
    rintro w' ⟨s0, s1, s4⟩
    go_simp
    first | done | with_reducible rfl | rfl
  try simp only [Act.put]
  refine wpAnyH_take (i := 2) (v := ?v3) rfl (by kernel_rfl) (by kernel_rfl) (by kernel_rfl) (fun _ _ _ h => h) (.inl ⟨by kernel_rfl, ?y3⟩) HS0.out ?_
  case y3 =>
    rintro w' ⟨s0, s1, s4⟩
    go_simp
    first | done | with_reducible rfl | rfl
  try simp only [Act.put]
  refine wpAnyH_take (i := 3) (v := ?v4) rfl (by kernel_rfl) (by kernel_rfl) (by kernel_rfl) (fun _ _ _ h => h) (.inl ⟨by kernel_rfl, ?y4⟩) HS0.out ?_
  case y4 =>
    rintro w' ⟨s0, s1, s4⟩
    go_simp
    first | done | with_reducible rfl | rfl
  try simp only [Act.put]
  refine wpAnyH_take (i := 4) (v := ?v5) rfl (by kernel_rfl) (by kernel_rfl) (by kernel_rfl) (fun _ _ _ h => h) (.inl ⟨by kernel_rfl, ?y5⟩) HS0.out ?_
  case y5 =>
    rintro w' ⟨s0, s1, s4⟩
    go_simp
    first | done | with_reducible rfl | rfl
  try simp only [Act.put]
  refine wpAnyH_take (i := 5) (v := ?v6) rfl (by kernel_rfl) (by kernel_rfl) (by kernel_rfl) (fun _ _ _ h => h) (.inl ⟨by kernel_rfl, ?y6⟩) HS0.out ?_
  case y6 =>
    rintro w' ⟨s0, s1, s4⟩
    go_simp
    first | done | with_reducible rfl | rfl
  try simp only [Act.put]
  refine wpAnyH_take (i := 6) (v := ?v7) rfl (by kernel_rfl) (by kernel_rfl) (by kernel_rfl) (fun _ _ _ h => h) (.inl ⟨by kernel_rfl, ?y7⟩) HS0.out ?_
  case y7 =>
    rintro w' ⟨s0, s1, s4⟩
    go_simp
    first | done | with_reducible rfl | rfl
  try simp only [Act.put]
  refine wpAnyH_take (i := 7) (v := ?v8) rfl (by kernel_rfl) (by kernel_rfl) (by kernel_rfl) (fun _ _ _ h => h) (.inl ⟨by kernel_rfl, ?y8⟩) HS0.out ?_
  case y8 =>
    rintro w' ⟨s0, s1, s4⟩
    go_simp
    first | done | with_reducible rfl | rfl
  try simp only [Act.put]
  refine wpAnyH_take (i := 8) (v := ?v9) rfl (by kernel_rfl) (by kernel_rfl) (by kernel_rfl) (fun _ _ _ h => h) (.inl ⟨by kernel_rfl, ?y9⟩) HS0.out ?_
  case y9 =>
    rintro w' ⟨s0, s1, s4⟩
    go_simp
    first | done | with_reducible rfl | rfl
  try simp only [Act.put]
  refine wpAnyH_take (i := 9) (v := ?v10) rfl (by kernel_rfl) (by kernel_rfl) (by kernel_rfl) (fun _ _ _ h => h) (.inl ⟨by kernel_rfl, ?y10⟩) HS0.out ?_
  case y10 =>
    rintro w' ⟨s0, s1, s4⟩
    go_simp
    first | done | with_reducible rfl | rfl
  try simp only [Act.put]
  refine wpAnyH_take (i := 10) (v := ?v11) rfl (by kernel_rfl) (by kernel_rfl) (by kernel_rfl) (fun _ _ _ h => h) (.inl ⟨by kernel_rfl, ?y11⟩) HS0.out ?_
  case y11 =>
    rintro w' ⟨s0, s1, s4⟩
    go_simp
    first | done | with_reducible rfl | rfl
  try simp only [Act.put]
  refine wpAnyH_take (i := 11) (v := ?v12) rfl (by kernel_rfl) (by kernel_rfl) (by kernel_rfl) (fun _ _ _ h => h) (.inl ⟨by kernel_rfl, ?y12⟩) HS0.out ?_
  case y12 =>
    rintro w' ⟨s0, s1, s4⟩
    go_simp
    first | done | with_reducible rfl | rfl
  try simp only [Act.put]
  refine wpAnyH_take (i := 12) (v := ?v13) rfl (by kernel_rfl) (by kernel_rfl) (by kernel_rfl) (fun _ _ _ h => h) (.inl ⟨by kernel_rfl, ?y13⟩) HS0.out ?_
  case y13 =>
    rintro w' ⟨s0, s1, s4⟩
    go_simp
    first | done | with_reducible rfl | rfl
  try simp only [Act.put]
  refine wpAnyH_take (i := 13) (v := ?v14) rfl (by kernel_rfl) (by kernel_rfl) (by kernel_rfl) (fun _ _ _ h => h) (.inl ⟨by kernel_rfl, ?y14⟩) HS0.out ?_
  case y14 =>
    rintro w' ⟨s0, s1, s4⟩
    go_simp
    first | done | with_reducible rfl | rfl
  try simp only [Act.put]
  refine wpAnyH_take (i := 14) (v := ?v15) rfl (by kernel_rfl) (by kernel_rfl) (by kernel_rfl) (fun _ _ _ h => h) (.inl ⟨by kernel_rfl, ?y15⟩) HS0.out ?_
  case y15 =>
    rintro w' ⟨s0, s1, s4⟩
    go_simp
    first | done | with_reducible rfl | rfl
  try simp only [Act.put]
  refine held_one (i := 15) (by kernel_rfl) rfl (by kernel_rfl) ?_
  unfold Oper.wp
  go_simp
  refine (C1.out).mono ?_
  rintro e w2 ⟨rfl, r, rfl⟩
  obtain ⟨z1, z2⟩ := HA.out r
  have HDr := Lib.hid (HD.out r)
  have HSr := Lib.hid (HS1.out r)
  clear HA HD HS1 HS0 C1
  generalize wy.drew.drewN r = wz at *
  refine ⟨HSr.out, ?_⟩
  try simp only [Act.put]
  refine wpAnyH_take (i := 16) (v := ?v16) rfl (by kernel_rfl) (by kernel_rfl) (by kernel_rfl) (fun _ _ _ h => h) (.inl ⟨by kernel_rfl, ?y16⟩) HSr.out ?_
  case y16 =>
    rintro w' ⟨s0, s1, s4⟩
    go_simp
    try simp only [if_pos hix]
    first | done | with_reducible rfl | rfl
  try simp only [Act.put]
  refine held_one (i := 17) (by kernel_rfl) rfl (by rfl) ?_
  unfold Oper.wp
  go_simp
  refine ⟨HSr.out.set HNE.out _ _, ?_⟩
  refine held_done (by kernel_rfl) ?_
  by_cases hUV : V < U + 1
  · have hd1 : decide (V < U + 1) = true := decide_eq_true hUV
    go_wp2_with fail
    go_ret
    obtain ⟨q, rfl⟩ := HDr.out
    exact HM.out true _ hd1.symm ⟨q, rfl⟩
  · have hd1 : decide (V < U + 1) = false := decide_eq_false hUV
    go_wp2_with fail
    go_ret
    obtain ⟨q, rfl⟩ := HDr.out
    exact HM.out false _ hd1.symm ⟨q, rfl⟩

end Go.Proofs.Ytgbcdeahiemhoaa

namespace Go.Proofs.Ytgbcdeahiemhoaa
open Go.RowKit

def FG (F G k : Nat) : Prop := k = F ∨ k = G
/-- What the function Fn keeps while the front goes on at cost P: St b: the bits of the diagonals so far; T: the blocks that it turns. -/
structure AdK (Fn : Nat) (Gf : Value → Value → Array Value) (T : Nat → Prop) (F G W P : Nat) (St : (Int → Bool) → World → Prop) : Prop where
  keep : ∀ {b : Int → Bool} {w w' : World}, St b w → Kp (FG F G) w w' → St b w'
  call : ∀ {b : Int → Bool} {w : World} (k : Int) (v : Bool), -(P : Int) ≤ k → k ≤ (W : Int) + P → St b w → b k = false → w.cell? ⟨F, 3, none⟩ = some (.int .i64 (P : Int)) →
    Calls Try.prog Fn (Gf (.int .i64 k) (.bool v)) w fun e w' => (∃ r, e = .returned r) ∧ St (fun κ => if κ = k then v else b κ) w' ∧ Kp T w w'
  tf : ¬ T F
  tg : ¬ T G

/-- The head of a round. -/
structure AdM (A B : Option Addr) (n m c d W F G P : Nat) (x y : List Int) (T : Nat → Prop) (St : (Int → Bool) → World → Prop) (D : Int → Bool) (w0 wr : World) : Prop where
  fro : FrO A B n m c d W F G (P : Int) (nwF x y W P D) wr
  st : St (bitF x y W P D) wr
  kp : Kp (fun k => FG F G k ∨ T k) w0 wr
def AdRel (A B : Option Addr) (n m c d W F G P : Nat) (x y : List Int) (T : Nat → Prop) (St : (Int → Bool) → World → Prop) (lo hi : Int) (Dk : Int → Int → Bool) (w0 : World) (v : Value) (wr : World) : Prop :=
  ∃ k : Int, v = .int .i64 k ∧ lo ≤ k ∧ k ≤ hi ∧ AdM A B n m c d W F G P x y T St (Dk k) w0 wr
def AdMade (A B : Option Addr) (n m c d W F G P : Nat) (x y : List Int) (T : Nat → Prop) (St : (Int → Bool) → World → Prop) (w0 : World) (e : Ending) (w' : World) : Prop :=
  e = .returned (.int .i64 ((W + 2 * P + 1 : Nat) : Int)) ∧ FrO A B n m c d W F G (P : Int) (frT x y W P) w' ∧ St (bitF x y W P (D2 W P ((W : Int) - 1))) w' ∧ Kp (fun k => FG F G k ∨ T k) w0 w'
section
variable {A B : Option Addr} {n m c d W F G P : Nat} {x y : List Int} {T : Nat → Prop} {St : (Int → Bool) → World → Prop} {D D' : Int → Bool} {w0 wr wz : World} {Fn : Nat} {Gf : Value → Value → Array Value}
/-- One diagonal has gone on, and the function has been told. -/
theorem AdM.next (K : AdK Fn Gf T F G W P St) (h : AdM A B n m c d W F G P x y T St D w0 wr) (hn : x.length = n) {k : Int} {t : Nat} (hk : k + n = (t : Int)) (h1 : D' k = true) (h2 : ∀ κ, κ ≠ k → D' κ = D κ)
    {q : Nat} {w' : World} (hs : St (fun κ => if κ = k then acB x y W P k else bitF x y W P D κ) w') (hw : Kp T ((wr.drewN q).setCell ⟨G, t + 1, none⟩ (.int .i64 (fr x y W P k))) w') : AdM A B n m c d W F G P x y T St D' w0 w' := by
  subst hn
  have hkp : Kp (FG F G) wr ((wr.drewN q).setCell ⟨G, t + 1, none⟩ (.int .i64 (fr x y W P k))) := ((Kp.refl _ _).drewN q).setCell (.inr rfl) _
  refine ⟨?_, ?_, ?_⟩
  · exact ((((h.fro.drewN q).put (t + 1) (fr x y W P k)).kept hw K.tf K.tg).congr fun s _ => nwF_put D' (t := t + 1) (by simp; omega) h1 h2 s)
  · rw [← bitF_put D' h1 h2]
    exact hs
  · exact h.kp.trans ((hkp.mono fun _ => .inl).trans (hw.mono fun _ => .inr))
end

set_option maxRecDepth 100000 in
set_option maxHeartbeats 3200000 in
theorem advance_any (Fn : Nat) (lb : Array Value) (Gf : Value → Value → Array Value) (eg : ∀ args w, (callFunc Fn args).run Try.prog w = .ok (.enter Fn args) w) (hG : ∀ x y, #[x, y] ++ lb = Gf x y) (T : Nat → Prop) (St : (Int → Bool) → World → Prop)
    (A B : Option Addr) (n m c d W F G P : Nat) (x y : List Int) (w0 w : World) (K : AdK Fn Gf T F G W P St) (hx : x.length = n) (hy : y.length = m) (hc : n ≤ c) (hd : m ≤ d) (hb : n ≤ 1048576) (hb' : m ≤ 1048576) (hW : n + W = m) (hP : P ≤ n)
    (h1 : Row w0 A (iv x)) (h2 : Row w0 B (iv y)) (hB : Below w0.heap.size w0 w) (hF : w0.heap.size ≤ F) (hG' : w0.heap.size ≤ G) (hT : ∀ k, T k → w0.heap.size ≤ k) (h : FrO A B n m c d W F G ((P : Int) - 1) (frT x y W ((P : Int) - 1)) w) (hs : St (fun _ => false) w) :
    Calls Try.prog 25 #[.pointer (some ⟨F, 0, none⟩), .func (.func Fn) #[] lb] w (AdMade A B n m c d W F G P x y T St w) := by
  have CN := Lib.hid (onext_any F W P ((P : Int) - 1) w h.c2 h.c3 (by omega) (by omega) (by omega))
  have hsz := hB.size
  have HB : Hid (∀ wr, Kp (fun k => FG F G k ∨ T k) w wr → Below w0.heap.size w0 wr) := fun wr hk => hB.trans (hk.below (fun k hk => by rcases hk with (rfl | rfl) | hk; exact hF; exact hG'; exact hT _ hk) hsz)
  have HM : Hid (∀ (D : Int → Bool) (k : Int) (t : Nat) (wr : World), AdM A B n m c d W F G P x y T St D w wr → k + (n : Int) = (t : Int) → t ≤ n + m → -(P : Int) ≤ k → k ≤ (W : Int) + P → (k ≤ W → -(P : Int) ≤ k - 1 → D (k - 1) = true) → ((W : Int) < k → D (k - 1) = false) → (k < W → D (k + 1) = false) → ((W : Int) ≤ k → k + 1 ≤ (W : Int) + P → D (k + 1) = true) →
      Calls Try.prog 36 #[.pointer (some ⟨F, 0, none⟩), .int .i64 k] wr fun e w' => e = .returned (.bool (acB x y W P k)) ∧ ∃ q, w' = (wr.drewN q).setCell ⟨G, t + 1, none⟩ (.int .i64 (fr x y W P k))) := by
    intro D k t wr hM hk ht hk1 hk2 d1 d2 d3 d4
    have hbr := HB.out _ hM.kp
    refine (move_any A B n m c d W F G t (P : Int) k x y _ wr hx hy hc hd hb hb' (h1.below hbr) (h2.below hbr) hM.fro hk ht (fun s _ => by rw [← hy]; exact nwF_low x y W P D s)).mono ?_
    rintro e w' ⟨rfl, q, rfl⟩
    have e1 : nwF x y W P D t + 1 = lfV x y W P k := nb_left (by rw [hx]; omega) d1 d2
    have e2 : nwF x y W P D (t + 2) = upV x y W P k := nb_up (by rw [hx]; simp; omega) d3 d4
    have e3 := mv_next (x := x) (y := y) (W := W) (P := P) (k := k) hk1 hk2 (by omega) (by omega)
    rw [hx, hy] at e3
    refine ⟨?_, q, ?_⟩
    · rw [e1, e2]; rfl
    · unfold mvJ
      rw [e1, e2, e3]
  have H0 : Hid (∀ q, AdRel A B n m c d W F G P x y T St (-(P : Int)) W (D1 P) w (.int .i64 (-(P : Int))) ((w.drewN q).setCell ⟨F, 3, none⟩ (.int .i64 (P : Int)))) := fun q => by
    refine ⟨_, rfl, Int.le_refl _, by omega, ?_⟩
    have hkp : Kp (FG F G) w ((w.drewN q).setCell ⟨F, 3, none⟩ (.int .i64 (P : Int))) := ((Kp.refl _ _).drewN q).setCell (.inl rfl) _
    rw [D1_zero]
    refine ⟨((h.drewN q).cost P).congr fun t _ => (nwF_none rfl).symm, ?_, hkp.mono fun _ => .inl⟩
    have : bitF x y W P (fun _ => false) = fun _ => false := by funext κ; unfold bitF; simp
    rw [this]
    exact K.keep hs hkp
  have f3 := h.obj.frozen 3
  have c3 := h.c3
  clear h hs h1 h2 hB hT hF hG' hc hd hy
  have hx' := Lib.hid hx
  clear hx
  go_enter Try.func25, Try.ntmps25
  go_wp2_with fail
  refine CN.out.mono ?_
  rintro e w1 ⟨rfl, q, rfl⟩
  have HI := Lib.hid (H0.out q)
  clear CN H0
  obtain ⟨NX, hNX⟩ : ∃ z, W + 2 * P + 1 = z := ⟨_, rfl⟩
  have HNX := Lib.hid hNX
  rw [hNX]
  clear hNX
  go_wp2_with fail
  go_loopw [6] (fun v wr => AdRel A B n m c d W F G P x y T St (-(P : Int)) W (D1 P) w v wr) (fun v _ => ((W : Int) - intOf v).toNat)
  case atStart => exact HI.out
  case round =>
    clear HI f3 c3
    obtain ⟨k, rfl, hk1, hk2, hM⟩ := hrel
    have c2 := hM.fro.c2
    by_cases hlt : k < W
    · obtain ⟨t, ht⟩ : ∃ t : Nat, k + (n : Int) = (t : Int) := ⟨(k + n).toNat, by omega⟩
      have CM := Lib.hid (HM.out (D1 P k) k t wr hM ht (by omega) hk1 (by omega) (fun _ h => by unfold D1; exact decide_eq_true (by omega)) (fun h => by omega) (fun _ => by unfold D1; exact decide_eq_false (by omega)) (fun h => by omega))
      have HN : Hid (∀ q w', St (fun κ => if κ = k then acB x y W P k else bitF x y W P (D1 P k) κ) w' → Kp T ((wr.drewN q).setCell ⟨G, t + 1, none⟩ (.int .i64 (fr x y W P k))) w' → AdRel A B n m c d W F G P x y T St (-(P : Int)) W (D1 P) w (.int .i64 (k + 1)) w') := fun q w' q1 q2 =>
        ⟨k + 1, rfl, by omega, by omega, hM.next K hx'.out ht (D1_next hk1).1 (D1_next hk1).2 q1 q2⟩
      have HC : Hid (∀ q, Calls Try.prog Fn (Gf (.int .i64 k) (.bool (acB x y W P k))) ((wr.drewN q).setCell ⟨G, t + 1, none⟩ (.int .i64 (fr x y W P k))) fun e w' => (∃ r, e = .returned r) ∧ St (fun κ => if κ = k then acB x y W P k else bitF x y W P (D1 P k) κ) w' ∧ Kp T ((wr.drewN q).setCell ⟨G, t + 1, none⟩ (.int .i64 (fr x y W P k))) w') := fun q => by
        have hkp : Kp (FG F G) wr ((wr.drewN q).setCell ⟨G, t + 1, none⟩ (.int .i64 (fr x y W P k))) := ((Kp.refl _ _).drewN q).setCell (.inr rfl) _
        refine K.call k _ hk1 (by omega) (K.keep hM.st hkp) ?_ (((hM.fro.drewN q).put (t + 1) (fr x y W P k)).c3)
        unfold bitF D1
        rw [decide_eq_false (by omega), Bool.false_and]
      clear hM HM
      go_wp2_with fail
      refine CM.out.mono ?_
      rintro e w2 ⟨rfl, q2, rfl⟩
      have HC2 := Lib.hid (HC.out q2)
      have HN2 := Lib.hid (HN.out q2)
      clear CM HC HN c2
      generalize (wr.drewN q2).setCell ⟨G, t + 1, none⟩ (.int .i64 (fr x y W P k)) = w3 at *
      go_wp2_with fail
      refine HC2.out.mono ?_
      rintro e w4 ⟨⟨r, rfl⟩, hs4, hk4⟩
      have R := Lib.hid (HN2.out _ hs4 hk4)
      clear HC2 HN2 hs4 hk4
      go_wp2_with fail
      go_roundw
      case rel => first | exact R.out | ((repeat apply Exists.intro); exact ⟨R.out, rfl⟩)
      case measure => simp [intOf]; omega
    · obtain rfl : k = W := by omega
      have c3 := hM.fro.c3
      have e1 : (W : Int) + (P : Int) = ((W + P : Nat) : Int) := by simp
      have q1 : IntKind.i64.wrap ((W : Int) + (P : Int)) = (W : Int) + (P : Int) := IntWalk.i64_in _ (by omega)
      have HI2 : Hid (∀ q, AdRel A B n m c d W F G P x y T St ((W : Int) - 1) ((W : Int) + P) (D2 W P) w (.int .i64 ((W : Int) + (P : Int))) (wr.drewN q)) := fun q => by
        rw [D12] at hM
        exact ⟨_, rfl, by omega, Int.le_refl _, hM.fro.drewN q, K.keep hM.st ((Kp.refl _ _).drewN q), hM.kp.drewN q⟩
      clear hM hlt e1
      go_wp2_with fail
      go_quiet (fail)
      have HI3 := Lib.hid (HI2.out nq)
      clear HI2 c2 c3
      generalize wr.drewN nq = wy at *
      go_wp2_with fail
      go_loopw [7] (fun v wr => AdRel A B n m c d W F G P x y T St ((W : Int) - 1) ((W : Int) + P) (D2 W P) w v wr) (fun v _ => (intOf v - W + 1).toNat)
      case atStart => exact HI3.out
      case round =>
        clear HI3
        obtain ⟨k, rfl, hk1, hk2, hM⟩ := hrel
        have c2 := hM.fro.c2
        by_cases hlt : (W : Int) ≤ k
        · obtain ⟨t, ht⟩ : ∃ t : Nat, k + (n : Int) = (t : Int) := ⟨(k + n).toNat, by omega⟩
          have CM := Lib.hid (HM.out (D2 W P k) k t wr hM ht (by omega) (by omega) hk2 (fun h h' => by unfold D2; exact decide_eq_true (by omega)) (fun h => by unfold D2; exact decide_eq_false (by omega)) (fun h => by omega) (fun h h' => by unfold D2; exact decide_eq_true (by omega)))
          have HN : Hid (∀ q w', St (fun κ => if κ = k then acB x y W P k else bitF x y W P (D2 W P k) κ) w' → Kp T ((wr.drewN q).setCell ⟨G, t + 1, none⟩ (.int .i64 (fr x y W P k))) w' → AdRel A B n m c d W F G P x y T St ((W : Int) - 1) ((W : Int) + P) (D2 W P) w (.int .i64 (k - 1)) w') := fun q w' q1 q2 =>
            ⟨k - 1, rfl, by omega, by omega, hM.next K hx'.out ht (D2_next hlt hk2).1 (D2_next hlt hk2).2 q1 q2⟩
          have HC : Hid (∀ q, Calls Try.prog Fn (Gf (.int .i64 k) (.bool (acB x y W P k))) ((wr.drewN q).setCell ⟨G, t + 1, none⟩ (.int .i64 (fr x y W P k))) fun e w' => (∃ r, e = .returned r) ∧ St (fun κ => if κ = k then acB x y W P k else bitF x y W P (D2 W P k) κ) w' ∧ Kp T ((wr.drewN q).setCell ⟨G, t + 1, none⟩ (.int .i64 (fr x y W P k))) w') := fun q => by
            have hkp : Kp (FG F G) wr ((wr.drewN q).setCell ⟨G, t + 1, none⟩ (.int .i64 (fr x y W P k))) := ((Kp.refl _ _).drewN q).setCell (.inr rfl) _
            refine K.call k _ (by omega) hk2 (K.keep hM.st hkp) ?_ (((hM.fro.drewN q).put (t + 1) (fr x y W P k)).c3)
            unfold bitF D2
            rw [decide_eq_false (by omega), Bool.false_and]
          clear hM HM
          go_wp2_with fail
          refine CM.out.mono ?_
          rintro e w2 ⟨rfl, q2, rfl⟩
          have HC2 := Lib.hid (HC.out q2)
          have HN2 := Lib.hid (HN.out q2)
          clear CM HC HN c2
          generalize (wr.drewN q2).setCell ⟨G, t + 1, none⟩ (.int .i64 (fr x y W P k)) = w3 at *
          go_wp2_with fail
          refine HC2.out.mono ?_
          rintro e w4 ⟨⟨r, rfl⟩, hs4, hk4⟩
          have R := Lib.hid (HN2.out _ hs4 hk4)
          clear HC2 HN2 hs4 hk4
          go_wp2_with fail
          go_roundw
          case rel => first | exact R.out | ((repeat apply Exists.intro); exact ⟨R.out, rfl⟩)
          case measure => simp [intOf]; omega
        · obtain rfl : k = (W : Int) - 1 := by omega
          have HF : Hid (AdMade A B n m c d W F G P x y T St w (.returned (.int .i64 (NX : Int))) wr) := by
            rw [← HNX.out]
            exact ⟨rfl, hM.fro.congr fun t _ => nwF_full t, hM.st, hM.kp⟩
          clear hM HM
          go_wp2_with fail
          go_ret
          exact HF.out

end Go.Proofs.Ytgbcdeahiemhoaa
