/-
  Words and contracts that the proof leans on.
-/
import Derived.Test.YthpinbmimgojnaaM20
import Derived.Test.YthpinbmimgojnaaM17
import Derived.Test.YthpinbmimgojnaaM23
namespace Go.Proofs.Ythpinbmimgojnaa
open Go.RowKit

/-- A strip at a row, made since w0. -/
structure SrA (A B : Option Addr) (n m c d k F G i : Nat) (x y : List Int) (w0 wr : World) : Prop where
  row : ∃ g, SrO A B n m c d (sdL n m k) (sdH n m k) F G i g wr ∧ RwI x y k (sdL n m k) (sdH n m k) i g
  below : Below w0.heap.size w0 wr
  hF : w0.heap.size ≤ F
  hG : w0.heap.size ≤ G
/-- The head of a round over the rows. -/
def SaRel (A B : Option Addr) (n m c d k F G : Nat) (x y : List Int) (w0 : World) (i : Value) (wr : World) : Prop :=
  ∃ a : Nat, a ≤ n ∧ i = .int .i64 (a : Int) ∧ SrA A B n m c d k F G a x y w0 wr
/-- The next row. -/
theorem SrA.next {A B : Option Addr} {n m c d k F G i : Nat} {x y : List Int} {w0 wr : World} (h : SrA A B n m c d k F G i x y w0 wr) (hx : x.length = n) (hy : y.length = m) (hn : n ≤ 1048576) (hm : m ≤ 1048576) (hk : apN n m ≤ k) (hd : m ≤ d) (r1 : Row w0 A (iv x)) (r2 : Row w0 B (iv y)) (hi : i + 1 ≤ n) :
    Calls Try.prog 21 #[.pointer (some ⟨F, 0, none⟩)] wr fun e w' => ∃ R, e = .returned (.slice (some ⟨R, 0, none⟩) (nwR (sdL n m k) (sdH n m k) m (i + 1)) (nwR (sdL n m k) (sdH n m k) m (i + 1))) ∧ AdV A B n m c d k (sdL n m k) (sdH n m k) F G i R x y wr w' ∧ SrA A B n m c d k F G (i + 1) x y w0 w' := by
  obtain ⟨g, s1, s2⟩ := h.row
  refine (badvance_any A B n m c d k F G i x y g w0 wr hx hy hn hm hk hd r1 r2 h.below h.hF h.hG s1 s2 hi).mono ?_
  rintro e w' ⟨R, e1, hv⟩
  exact ⟨R, e1, hv, ⟨hv.row, h.below.trans (hv.keep.below (fun z e => by
    rcases e with e | e
    · rw [e]; exact h.hF
    · rw [e]; exact h.hG) h.below.size), h.hF, h.hG⟩⟩
/-- The cost at the ends of both lists tells whether the distance is within the bound. -/
theorem SrA.end {A B : Option Addr} {n m c d k F G : Nat} {x y : List Int} {w0 wr : World} (h : SrA A B n m c d k F G n x y w0 wr) (hx : x.length = n) (hy : y.length = m) (hn : n ≤ 1048576) (hm : m ≤ 1048576) :
    ∃ E : Nat, E ≤ 8388608 ∧ (dist x y ≤ k → E = dist x y) ∧ (k < dist x y → k < E) ∧ ∀ q, Calls Try.prog 22 #[.pointer (some ⟨F, 0, none⟩)] (wr.drewN q) fun e w' => e = .returned (.int .i64 (E : Int)) ∧ ∃ r, w' = wr.drewN r := by
  obtain ⟨g, s1, s2⟩ := h.row
  obtain ⟨b1, b2, b3, b4⟩ := sd_le n m k
  have hE := s2.own y.length (Nat.le_refl _) (by omega) (by omega)
  rw [← hx] at hE
  have hE2 := bdd_end hE
  rw [hx, hy] at hE2
  obtain ⟨t, ht⟩ : ∃ t, m + sdL n m k + 1 - n = t := ⟨_, rfl⟩
  have hlo := s2.lo t (by omega)
  rw [hx, hy] at hlo
  rw [ht] at hE2
  obtain ⟨E, hEE⟩ : ∃ E : Nat, g t = (E : Int) := ⟨(g t).toNat, by omega⟩
  rw [hEE] at hE2 hlo
  refine ⟨E, by omega, fun e => by have := hE2.1 e; omega, fun e => by have := hE2.2 e; omega, fun q => ?_⟩
  have := bend_any (s1.drewN q) t ht (by omega) (by omega) (by omega) hm (by omega) (by omega)
  rw [hEE] at this
  exact this.mono fun e w' ⟨e1, r, e2⟩ => ⟨e1, q + r, by rw [e2, World.drewN_drewN]⟩

/-- What Within leaves. -/
def WiMade (x y : List Int) (k : Nat) (w : World) (e : Ending) (w' : World) : Prop :=
  (e = if dist x y ≤ k then .returned (.tuple #[.int .i64 (dist x y : Nat), .int .i64 (clQ x.length y.length k : Nat), .int .i64 0]) else .returned (.tuple #[.int .i64 0, .int .i64 0, .int .i64 3])) ∧ Below w.heap.size w w'
/-- The head of a round over the bounds. -/
def WiRel (n m k : Nat) (w0 : World) (b : Value) (wr : World) : Prop :=
  ∃ K : Nat, b = .int .i64 (K : Int) ∧ apN n m ≤ K ∧ K ≤ k ∧ (K = k ∨ K ≤ 4611686018427387903) ∧ Below w0.heap.size w0 wr

set_option maxRecDepth 100000 in
theorem bwithin_neg (A B : Option Addr) (n m c d : Nat) (k : Int) (w : World) (hk : k < 0) :
    Calls Try.prog 9 #[.slice A n c, .slice B m d, .int .i64 k] w fun e w' => e = .returned (.tuple #[.int .i64 0, .int .i64 0, .int .i64 1]) ∧ w' = w := by
  go_enter Try.func9, Try.ntmps9
  go_wp2_with fail
  go_ret3
  exact ⟨rfl, rfl⟩

set_option maxRecDepth 100000 in
set_option maxHeartbeats 3200000 in
theorem bwithin_any (A B : Option Addr) (n m c d k : Nat) (x y : List Int) (w : World) (hx : x.length = n) (hy : y.length = m) (hn : n ≤ 1048576) (hm : m ≤ 1048576) (hd : m ≤ d) (hk : k ≤ 9223372036854775807) (r1 : Row w A (iv x)) (r2 : Row w B (iv y)) :
    Calls Try.prog 9 #[.slice A n c, .slice B m d, .int .i64 (k : Int)] w (WiMade x y k w) := by
  have CA := Lib.hid (fun w => bapart_any n m w hn hm)
  have CC : Hid (∀ w, Calls Try.prog 12 #[.int .i64 (n : Int), .int .i64 (m : Int), .int .i64 (k : Int)] w fun e w' => e = .returned (.int .i64 (clQ n m k : Nat)) ∧ w' = w) := fun w => by
    have := pcells_any n m k w ⟨by omega, by omega⟩
    rw [clI_in _ _ _ hn hm] at this
    exact this
  have hap := dist_apart x y
  rw [hx, hy] at hap
  have HY : Hid (∀ w' E, dist x y ≤ k → E = dist x y → Below w.heap.size w w' → WiMade x y k w (.returned (.tuple #[.int .i64 (E : Int), .int .i64 (clQ n m k : Nat), .int .i64 0])) w') := fun w' E e1 e2 e3 => ⟨by rw [if_pos e1, e2, hx, hy], e3⟩
  have HNo : Hid (∀ w', k < dist x y → Below w.heap.size w w' → WiMade x y k w (.returned (.tuple #[.int .i64 0, .int .i64 0, .int .i64 3])) w') := fun w' e1 e3 => ⟨by rw [if_neg (by omega)], e3⟩
  have HS : Hid (∀ K wr, apN n m ≤ K → K ≤ k → Below w.heap.size w wr → Calls Try.prog 20 #[.slice A n c, .slice B m d, .int .i64 (K : Int)] wr fun e w' => ∃ F G, e = .returned (.pointer (some ⟨F, 0, none⟩)) ∧ SrA A B n m c d K F G 0 x y w w') := fun K wr e1 e2 e3 =>
    (newStrip_any A B n m c d K x y wr hx hy hn hm e1 (by omega)).mono fun e w' ⟨F, G, g, q1, q2, q3, q4, q5, q6⟩ => ⟨F, G, q1, ⟨g, q2, q3⟩, e3.trans (q6.mono e3.size), Nat.le_trans e3.size q4, Nat.le_trans e3.size q5⟩
  have HNx : Hid (∀ K F G i wr, apN n m ≤ K → i + 1 ≤ n → SrA A B n m c d K F G i x y w wr → Calls Try.prog 21 #[.pointer (some ⟨F, 0, none⟩)] wr fun e w' => (∃ R, e = .returned (.slice (some ⟨R, 0, none⟩) (nwR (sdL n m K) (sdH n m K) m (i + 1)) (nwR (sdL n m K) (sdH n m K) m (i + 1)))) ∧ SrA A B n m c d K F G (i + 1) x y w w') := fun K F G i wr e1 e2 e3 =>
    (e3.next hx hy hn hm e1 hd r1 r2 e2).mono fun e w' ⟨R, q1, _, q2⟩ => ⟨⟨R, q1⟩, q2⟩
  have HEn : Hid (∀ K F G wr, SrA A B n m c d K F G n x y w wr → ∃ E : Nat, E ≤ 8388608 ∧ (dist x y ≤ K → E = dist x y) ∧ (K < dist x y → K < E) ∧ ∀ q, Calls Try.prog 22 #[.pointer (some ⟨F, 0, none⟩)] (wr.drewN q) fun e w' => e = .returned (.int .i64 (E : Int)) ∧ ∃ r, w' = wr.drewN r) := fun K F G wr e => e.end hx hy hn hm
  have hapb : apN n m ≤ 1048576 := by unfold apN; omega
  have HA := Lib.hid (Nat.le_refl (apN n m))
  clear r1 r2 hx hy hd
  by_cases h1 : k < apN n m
  · have HF := Lib.hid (HNo.out w (by omega) (Below.refl _ _))
    clear HY HNo HS HNx HEn CC
    generalize apN n m = D at *
    go_enter Try.func9, Try.ntmps9
    go_wp2_with fail
    refine (CA.out _).mono ?_
    rintro e w1 ⟨rfl, rfl⟩
    clear CA
    go_wp2_with fail
    go_ret3
    exact HF.out
  · have HI : Hid (WiRel n m k w (.int .i64 (apN n m : Nat)) w) := ⟨apN n m, rfl, Nat.le_refl _, by omega, .inr (by omega), Below.refl _ _⟩
    go_enter Try.func9, Try.ntmps9
    go_wp2_with fail
    refine (CA.out _).mono ?_
    rintro e w1 ⟨rfl, rfl⟩
    clear CA
    go_wp2_with fail
    go_loopw [9] (fun b wr => WiRel n m k w1 b wr) (fun b _ => k - (intOf b).toNat)
    case atStart => exact HI.out
    case round =>
      clear HI
      obtain ⟨K, rfl, hK1, hK2, hK3, hbw⟩ := hrel
      have CS := Lib.hid (HS.out K wr hK1 hK2 hbw)
      clear HS hbw
      go_wp2_with fail
      refine CS.out.mono ?_
      rintro e w2 ⟨F, G, rfl, hA⟩
      have HI2 : Hid (SaRel A B n m c d K F G x y w1 (.int .i64 0) w2) := ⟨0, Nat.zero_le _, rfl, hA⟩
      clear CS hA
      go_wp2_with fail
      go_loopw [27] (fun i wr => SaRel A B n m c d K F G x y w1 i wr) (fun i _ => n - (intOf i).toNat)
      case atStart => exact HI2.out
      case round =>
        clear HI2
        obtain ⟨a, ha, rfl, hA⟩ := hrel
        by_cases hlt : a < n
        · have CN := Lib.hid (HNx.out K F G a _ hK1 hlt hA)
          clear HNx HEn HY HNo hA CC
          go_wp2_with fail
          refine CN.out.mono ?_
          rintro e w3 ⟨⟨R, rfl⟩, hA3⟩
          have R5 : Hid (SaRel A B n m c d K F G x y w1 (.int .i64 ((a + 1 : Nat) : Int)) w3) := ⟨a + 1, hlt, rfl, hA3⟩
          clear CN hA3
          go_wp2_with fail
          go_roundw
          case rel => first | exact R5.out | ((repeat apply Exists.intro); exact ⟨R5.out, rfl⟩)
          case measure => simp [intOf]; omega
        · obtain rfl : n = a := by omega
          obtain ⟨E, e1, e2, e3, CE⟩ := HEn.out K F G _ hA
          have hbw := hA.below
          have HB2 : Hid (∀ q, Below w1.heap.size w1 (wr.drewN q)) := fun q => below_drewN hbw q
          have HCE := Lib.hid CE
          clear HNx HEn hA hbw CE
          by_cases hE : E ≤ K
          · have hdk : dist x y ≤ K := by omega
            have HF : Hid (∀ q, WiMade x y k w1 (.returned (.tuple #[.int .i64 (E : Int), .int .i64 (clQ n m k : Nat), .int .i64 0])) (wr.drewN q)) := fun q => HY.out _ E (by omega) (e2 hdk) (HB2.out q)
            clear HY HNo HB2 e2 e3 hdk hap HA
            go_wp2_with fail
            refine (HCE.out 0).mono ?_
            rintro e w4 ⟨rfl, q, rfl⟩
            go_wp2_with fail
            refine (HCE.out q).mono ?_
            rintro e w4 ⟨rfl, q2, rfl⟩
            clear HCE
            go_wp2_with fail
            refine (CC.out _).mono ?_
            rintro e w5 ⟨rfl, rfl⟩
            clear CC
            go_wp2_with fail
            go_ret3
            exact HF.out _
          · have hdk : K < dist x y := by omega
            by_cases hKk : K = k
            · have HF : Hid (∀ q, WiMade x y k w1 (.returned (.tuple #[.int .i64 0, .int .i64 0, .int .i64 3])) (wr.drewN q)) := fun q => HNo.out _ (by omega) (HB2.out q)
              clear HY HNo HB2 e2 e3 hdk hap HA CC hK3
              subst hKk
              go_wp2_with fail
              refine (HCE.out 0).mono ?_
              rintro e w4 ⟨rfl, q, rfl⟩
              clear HCE
              go_wp2_with fail
              go_ret3
              exact HF.out _
            · have hKb : K ≤ 4611686018427387903 := by omega
              have CX := Lib.hid (fun w => bnext_any K w hKb)
              obtain ⟨Z, hZ⟩ : ∃ z, k / 2 = z := ⟨_, rfl⟩
              have y1 : (k : Int) / 2 = (Z : Int) := by omega
              have y3 : (k : Int).tdiv 2 = (Z : Int) := by rw [Int.tdiv_eq_ediv_of_nonneg (by omega)]; exact y1
              have HR : Hid (∀ K' q, K ≤ K' → K' ≤ k → (K' = k ∨ K' ≤ 4611686018427387903) → WiRel n m k w1 (.int .i64 (K' : Int)) (wr.drewN q)) := fun K' q g1 g2 g3 => ⟨K', rfl, by omega, g2, g3, HB2.out q⟩
              have hne : ((K : Int) == (k : Int)) = false := by simp; omega
              clear HY HNo HB2 e2 e3 hdk hap HA CC
              by_cases hnx : Z < 2 * K + 1
              · have R5 := Lib.hid (fun q => HR.out k q hK2 (Nat.le_refl _) (.inl rfl))
                clear HR
                go_wp2_with fail
                refine (HCE.out 0).mono ?_
                rintro e w4 ⟨rfl, q, rfl⟩
                clear HCE
                go_wp2_with fail
                refine (CX.out _).mono ?_
                rintro e w5 ⟨rfl, rfl⟩
                clear CX
                go_wp2_with fail
                go_roundw
                case rel => first | exact R5.out _ | ((repeat apply Exists.intro); exact ⟨R5.out _, rfl⟩)
                case measure => simp [intOf]; omega
              · have R5 := Lib.hid (fun q => HR.out (2 * K + 1) q (by omega) (by omega) (.inr (by omega)))
                clear HR
                go_wp2_with fail
                refine (HCE.out 0).mono ?_
                rintro e w4 ⟨rfl, q, rfl⟩
                clear HCE
                go_wp2_with fail
                refine (CX.out _).mono ?_
                rintro e w5 ⟨rfl, rfl⟩
                clear CX
                go_wp2_with fail
                go_roundw
                case rel => first | exact R5.out _ | ((repeat apply Exists.intro); exact ⟨R5.out _, rfl⟩)
                case measure => simp [intOf]; omega

end Go.Proofs.Ythpinbmimgojnaa
