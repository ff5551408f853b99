/-
  Words and contracts that the proof leans on.
-/
import Derived.Test.YtgbcdeahiemhoaaM20
import Derived.Test.YtgbcdeahiemhoaaM21
namespace Go.Proofs.Ytgbcdeahiemhoaa
open Go.RowKit

/-- A function that does nothing when it is told. -/
theorem ad_none (Fn : Nat) (F G W P : Nat) (h : ∀ (k : Int) (v : Bool) (w : World), Calls Try.prog Fn #[.int .i64 k, .bool v] w fun e w' => (∃ r, e = .returned r) ∧ w' = w) : AdK Fn (fun x y => #[x, y]) (fun _ => False) F G W P (fun _ _ => True) :=
  ⟨fun _ _ => trivial, fun k v _ _ _ _ _ => (h k v _).mono fun _ _ ⟨h1, h2⟩ => ⟨h1, trivial, by rw [h2]; exact Kp.refl _ _⟩, id, id⟩
theorem dist1_any (k : Int) (v : Bool) (w : World) : Calls Try.prog 26 #[.int .i64 k, .bool v] w fun e w' => (∃ r, e = .returned r) ∧ w' = w := by
  go_enter Try.func26, Try.ntmps26
  go_wp2_with fail
  go_end0
  exact ⟨⟨_, rfl⟩, rfl⟩
theorem far1_any (k : Int) (v : Bool) (w : World) : Calls Try.prog 27 #[.int .i64 k, .bool v] w fun e w' => (∃ r, e = .returned r) ∧ w' = w := by
  go_enter Try.func27, Try.ntmps27
  go_wp2_with fail
  go_end0
  exact ⟨⟨_, rfl⟩, rfl⟩

/-- The head of a round: the front at cost P - 1. -/
structure FrS (A B : Option Addr) (n m c d W F G P : Nat) (x y : List Int) (w0 wr : World) : Prop where
  fro : FrO A B n m c d W F G ((P : Int) - 1) (frT x y W ((P : Int) - 1)) wr
  below : Below w0.heap.size w0 wr
theorem FrS.drewN {A B : Option Addr} {n m c d W F G P : Nat} {x y : List Int} {w0 wr : World} (h : FrS A B n m c d W F G P x y w0 wr) (q : Nat) : FrS A B n m c d W F G P x y w0 (wr.drewN q) := ⟨h.fro.drewN q, below_drewN h.below q⟩
theorem frT_first (x y : List Int) (W t : Nat) : frT x y W (((0 : Nat) : Int) - 1) t = -1 := by
  unfold frT
  rcases fr_is x y W (((0 : Nat) : Int) - 1) ((t : Int) - x.length - 1) with e | ⟨i, j, _, _, _, h, _⟩
  · exact e
  · exfalso
    have : (0 : Int) ≤ (cst x y W i j : Int) := by omega
    omega
theorem FrS.start {A B : Option Addr} {n m c d W F G : Nat} {x y : List Int} {w0 wr : World} (h : FrO A B n m c d W F G (-1) (fun _ => -1) wr) (hb : Below w0.heap.size w0 wr) : FrS A B n m c d W F G 0 x y w0 wr :=
  ⟨h.congr fun t _ => (frT_first x y W t).symm, hb⟩
/-- The front goes on, nobody is told. -/
theorem adv_none (Fn : Nat) (hf : ∀ (k : Int) (v : Bool) (w : World), Calls Try.prog Fn #[.int .i64 k, .bool v] w fun e w' => (∃ r, e = .returned r) ∧ w' = w) (eg : ∀ args w, (callFunc Fn args).run Try.prog w = .ok (.enter Fn args) w)
    (A B : Option Addr) (n m c d W F G P : Nat) (x y : List Int) (w0 w : World) (hx : x.length = n) (hy : y.length = m) (hc : n ≤ c) (hd : m ≤ d) (hb : n ≤ 1048576) (hb' : m ≤ 1048576) (hW : n + W = m) (hP : P ≤ n) (h1 : Row w0 A (iv x)) (h2 : Row w0 B (iv y)) (hF : w0.heap.size ≤ F) (hG : w0.heap.size ≤ G) (h : FrS A B n m c d W F G P x y w0 w) :
    Calls Try.prog 25 #[.pointer (some ⟨F, 0, none⟩), .func (.func Fn) #[] #[]] w fun e w' => e = .returned (.int .i64 ((W + 2 * P + 1 : Nat) : Int)) ∧ FrS A B n m c d W F G (P + 1) x y w0 w' := by
  refine (advance_any Fn #[] (fun x y => #[x, y]) eg (fun _ _ => rfl) (fun _ => False) (fun _ _ => True) A B n m c d W F G P x y w0 w (ad_none Fn F G W P hf) hx hy hc hd hb hb' hW hP h1 h2 h.below hF hG (fun _ h => h.elim) h.fro trivial).mono ?_
  rintro e w' ⟨rfl, h3, _, h5⟩
  refine ⟨rfl, ?_, h.below.trans (h5.below (fun k hk => by rcases hk with (rfl | rfl) | hk; exact hF; exact hG; exact hk.elim) h.below.size)⟩
  have e : (((P + 1 : Nat) : Int) - 1) = (P : Int) := by simp
  rw [e]
  exact h3

/-- What Dist leaves. -/
def DtMade (a b : List Int) (w : World) (e : Ending) (w' : World) : Prop :=
  e = .returned (.tuple #[.int .i64 (dist a b : Nat), .int .i64 (stN (wdt a b) (rgt a b + 1) : Nat)]) ∧ Below w.heap.size w w'
def DtRel (A B : Option Addr) (n m c d W F G M R : Nat) (x y : List Int) (w0 : World) (v : Value) (wr : World) : Prop :=
  ∃ P S : Nat, v = .int .i64 (S : Int) ∧ S = stN W P ∧ P ≤ R + 1 ∧ S ≤ M ∧ FrS A B n m c d W F G P x y w0 wr
theorem stN_up (W : Nat) {P Q : Nat} (h : P ≤ Q) : stN W P ≤ stN W Q := by
  rw [stN_is, stN_is]
  exact Nat.mul_le_mul h (by omega)

set_option maxRecDepth 100000 in
set_option maxHeartbeats 1600000 in
theorem odist_any (A B : Option Addr) (n m c d : Nat) (a b : List Int) (w : World) (hn : a.length = n) (hm : b.length = m) (hc : n ≤ c) (hd : m ≤ d) (hb : n ≤ 1048576) (hb' : m ≤ 1048576) (h1 : Row w A (iv a)) (h2 : Row w B (iv b)) :
    Calls Try.prog 9 #[.slice A n c, .slice B m d] w (DtMade a b w) := by
  have CO := Lib.hid (ordered_any A B n m c d a b w hn hm hc hd h1 h2)
  have hl := sht_len a b
  have hrd := rgt_dist a b
  have hre := rgt_end a b
  have hrl := rgt_le a b
  obtain ⟨hl1, hl2, hl3, hl4, hl5⟩ := hl
  clear hl4 hl5
  rw [hn, hm] at hl1 hl2
  have HD : Hid (∀ (e : Ending) (w' : World) (D S : Nat), D = dist a b → S = stN (wdt a b) (rgt a b + 1) → e = .returned (.tuple #[.int .i64 (D : Int), .int .i64 (S : Int)]) → Below w.heap.size w w' → DtMade a b w e w') := fun e w' D S q1 q2 q3 q4 => ⟨by rw [q3, q1, q2], q4⟩
  clear h1 h2 hn hm hc hd
  go_enter Try.func9, Try.ntmps9
  go_wp2_with fail
  refine CO.out.mono ?_
  rintro e w1 ⟨A', B', N, M, C, D, t, rfl, ⟨hx, hy, hc, hd, r1, r2, ht⟩, rfl⟩
  clear CO ht
  generalize sht a b = x at *
  generalize lng a b = y at *
  generalize wdt a b = W at *
  generalize rgt a b = R at *
  rw [hx] at hl1 hl3 hrl
  rw [hy] at hl2 hl3
  have hN : N ≤ 1048576 := by omega
  have hM : M ≤ 1048576 := by omega
  have CN := Lib.hid (newFront_any A' B' N M C D W w1 hN hM hl3)
  have HE : Hid (∀ P : Nat, frT x y W ((P : Int) - 1) (M + 1) = (M : Int) ↔ R + 1 ≤ P) := fun P => by
    have e := hre ((P : Int) - 1)
    rw [hy] at e
    unfold frT
    rw [show ((M + 1 : Nat) : Int) - x.length - 1 = (W : Int) by rw [hx]; simp; omega, e]
    omega
  have HA : Hid (∀ F G P w, P ≤ N → w1.heap.size ≤ F → w1.heap.size ≤ G → FrS A' B' N M C D W F G P x y w1 w → _) := fun F G P w hP hF hG h => adv_none 26 dist1_any (enters_of Try.func26 (by kernel_rfl) rfl) A' B' N M C D W F G P x y w1 w hx hy hc hd hN hM hl3 hP r1 r2 hF hG h
  have HS := Lib.hid (stN_le (W := W) (c := R + 1) (by omega) (by omega))
  have HU := Lib.hid (fun P (h : P ≤ R + 1) => stN_up W h)
  have HT : Hid (∀ P, stN W (P + 1) = stN W P + (W + 2 * P + 1)) := fun P => by
    rw [stN_is, stN_is]
    simp only [Nat.add_mul, Nat.mul_add]
    omega
  obtain ⟨MX, hMX⟩ : ∃ z, stN W (R + 1) = z := ⟨_, rfl⟩
  have HMX := Lib.hid hMX
  rw [hMX] at HS HU HD
  have HSS := HS.out
  clear hMX hre hl1 hl2 r1 r2 hc hd
  go_wp2_with fail
  refine CN.out.mono ?_
  rintro e w2 ⟨F, G, rfl, hF, hg1, hg2, hb2⟩
  have HI : Hid (DtRel A' B' N M C D W F G MX R x y w1 (.int .i64 0) w2) := ⟨0, 0, rfl, by rw [stN_is, Nat.zero_mul], Nat.zero_le _, Nat.zero_le _, FrS.start hF hb2⟩
  clear CN hF hb2
  go_wp2_with fail
  go_loopw [5] (fun v wr => DtRel A' B' N M C D W F G MX R x y w1 v wr) (fun v _ => MX - (intOf v).toNat)
  case atStart => exact HI.out
  case round =>
    clear HI
    obtain ⟨P, S, rfl, hS0, hP, hSM, hf⟩ := hrel
    have hS := Lib.hid hS0
    clear hS0
    have CA := Lib.hid (arrived_any A' B' N M C D W F G ((P : Int) - 1) _ wr hf.fro hN hM hl3)
    have he := HE.out P
    generalize frT x y W ((P : Int) - 1) (M + 1) = z at *
    by_cases hr : R + 1 ≤ P
    · obtain rfl : P = R + 1 := by omega
      rw [decide_eq_true (he.2 hr)] at CA
      have HF : Hid (∀ q, FrS A' B' N M C D W F G (R + 1) x y w1 (wr.drewN q)) := fun q => hf.drewN q
      clear hf he hr HA HE
      go_wp2_with fail
      refine CA.out.mono ?_
      rintro e w3 ⟨rfl, q, rfl⟩
      have hf := HF.out q
      have c2 := hf.fro.c2
      have c3 := hf.fro.c3
      have hbw := Lib.hid hf.below
      clear CA HF hf
      generalize wr.drewN q = wy at *
      have e1 : ((R + 1 : Nat) : Int) - 1 = (R : Int) := by simp
      rw [e1] at c3
      have q1 : IntKind.i64.wrap (2 * (R : Int)) = 2 * (R : Int) := IntWalk.i64_in _ (by omega)
      have q2 : IntKind.i64.wrap ((W : Int) + 2 * (R : Int)) = (W : Int) + 2 * (R : Int) := IntWalk.i64_in _ (by omega)
      clear e1
      go_wp2_with fail
      go_quiet (fail)
      go_wp2_with fail
      go_ret2
      refine HD.out _ _ (W + 2 * R) S hrd.symm (by rw [hS.out, HMX.out]) ?_ (below_drewN hbw.out nq)
      show Ending.returned (.tuple #[.int .i64 ((W : Int) + 2 * (R : Int)), .int .i64 (S : Int)]) = _
      simp
    · rw [decide_eq_false (fun h => hr (he.1 h))] at CA
      have hT := HT.out P
      have hU := HU.out (P + 1) (by omega)
      obtain ⟨K, hK⟩ : ∃ z, W + 2 * P + 1 = z := ⟨_, rfl⟩
      have HC : Hid (∀ q, _) := fun q => HA.out F G P (wr.drewN q) (by omega) hg1 hg2 (hf.drewN q)
      rw [hK] at HC hT
      have hK1 : 1 ≤ K := by omega
      clear hf he HA HE hK
      have HN : Hid (∀ w', FrS A' B' N M C D W F G (P + 1) x y w1 w' → DtRel A' B' N M C D W F G MX R x y w1 (.int .i64 ((S + K : Nat) : Int)) w') := fun w' h => ⟨P + 1, S + K, rfl, by have := hS.out; omega, by omega, by have := hS.out; omega, h⟩
      have hSK : S + K ≤ MX := by have := hS.out; omega
      clear hS hT hU
      go_wp2_with fail
      refine CA.out.mono ?_
      rintro e w3 ⟨rfl, q, rfl⟩
      have HC1 := Lib.hid (HC.out q)
      clear CA HC
      go_wp2_with fail
      refine HC1.out.mono ?_
      rintro e w4 ⟨rfl, hf2⟩
      have R := Lib.hid (HN.out _ hf2)
      clear HC1 HN hf2
      go_wp2_with fail
      go_roundw
      case rel => first | exact R.out | ((repeat apply Exists.intro); exact ⟨R.out, rfl⟩)
      case measure => simp [intOf]; omega

end Go.Proofs.Ytgbcdeahiemhoaa
