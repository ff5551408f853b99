/-
  Words and contracts that the proof leans on.
-/
import Derived.Test.YthpinbmimgojnaaM24
import Derived.Test.YthpinbmimgojnaaM28
import Derived.Test.YthpinbmimgojnaaM11
import Derived.Test.YthpinbmimgojnaaM12
import Derived.Test.YthpinbmimgojnaaM13
import Derived.Test.YthpinbmimgojnaaM3
import Derived.Test.YthpinbmimgojnaaM8
namespace Go.Proofs.Ythpinbmimgojnaa
open Go.RowKit

def wbV (L H m R q : Nat) : Value := .slice (some ⟨R, 0, none⟩) (nwR L H m (q + 1)) (nwR L H m (q + 1))
/-- The ways so far, a row that grows. -/
structure WbO (x y : List Int) (k L H m hi P : Nat) (Rs : Nat → Nat) (v : Value) (w : World) : Prop where
  own : w.ownsRow hi 41 1 v P ((List.range P).map fun q => wbV L H m (Rs q) q)
  lo : ∀ q, q < P → hi ≤ Rs q
  way : ∀ q, q < P → WyR x y k L H m q (Rs q) w
  nn : ∃ g c, v = .slice (some ⟨g, 0, none⟩) P c
section
variable {x y : List Int} {k L H m hi P : Nat} {Rs : Nat → Nat} {v : Value} {w w' : World}
theorem WbO.kept {S : Nat → Prop} (h : WbO x y k L H m hi P Rs v w) (hk : Kp S w w') (hS : ∀ z, hi ≤ z → z < w.heap.size → ¬ S z) : WbO x y k L H m hi P Rs v w' :=
  ⟨own_kept h.own hk hS, h.lo, fun q hq => (h.way q hq).kept hk (hS _ (h.lo q hq) (h.way q hq).lt), h.nn⟩
theorem WyR.grown {q R n : Nat} {us : List Value} {o : Obj} (h : WyR x y k L H m q R w) (ho : w.ownsRow hi 41 1 v n us) (hg : (w.alloc o).grownBy w' v.ownBlock) : WyR x y k L H m q R w' := by
  obtain ⟨f, ⟨u, u1, u2, u3⟩, hf⟩ := h
  exact ⟨f, ⟨u, (u1.alloc o).of_block (hg.block R (by have := World.rowIs.lt u1; simp; omega) (row_not_own ho u1)), u2, u3⟩, hf⟩
theorem WbO.app {R : Nat} {o : Obj} {v' : Value} (h : WbO x y k L H m hi P Rs v w) (hR : WyR x y k L H m P R w) (hl : hi ≤ R) (h1 : w'.ownsRow hi 41 1 v' (P + 1) (((List.range P).map fun q => wbV L H m (Rs q) q) ++ [wbV L H m R P])) (hg : (w.alloc o).grownBy w' v.ownBlock) :
    WbO x y k L H m hi (P + 1) (fun q => if q = P then R else Rs q) v' w' := by
  refine ⟨?_, fun q hq => ?_, fun q hq => ?_, ?_⟩
  · rw [List.range_succ, List.map_append, List.map_singleton, if_pos rfl]
    have e : ((List.range P).map fun q => wbV L H m (if q = P then R else Rs q) q) = (List.range P).map fun q => wbV L H m (Rs q) q := List.map_congr_left fun q hq => by rw [if_neg (by have := List.mem_range.1 hq; omega)]
    rw [e]
    exact h1
  · by_cases e : q = P
    · simp only [if_pos e]; exact hl
    · simp only [if_neg e]; exact h.lo q (by omega)
  · by_cases e : q = P
    · subst e
      simp only [if_pos]
      exact hR.grown h.own hg
    · simp only [if_neg e]
      exact (h.way q (by omega)).grown h.own hg
  · obtain ⟨g, c, e, _⟩ := own_posS h1 (by omega)
    exact ⟨g, c, e⟩
theorem WbO.read (h : WbO x y k L H m hi P Rs v w) : ∃ g c, v = .slice (some ⟨g, 0, none⟩) P c ∧ WysR x y k L H m P g 0 w := by
  obtain ⟨g, c, rfl⟩ := h.nn
  refine ⟨g, c, rfl, fun q hq => ⟨Rs q, ?_, h.way q hq⟩⟩
  have := h.own.cells (g := g) rfl q (wbV L H m (Rs q) q) (by rw [List.getElem?_map, List.getElem?_range hq]; rfl)
  rw [Addr.add_lit] at this
  exact this
end

/-- What Run leaves. -/
def BrMade (x y : List Int) (w : World) (e : Ending) (w' : World) : Prop :=
  ∃ (v : Value) (l : List Pr), e = .returned (.tuple #[v, .int .i64 (bndS (clQ x.length y.length) (dist x y) (apN x.length y.length) : Nat)]) ∧ (goodB x y l = true ∧ l.length = lcs x y) ∧ w'.ownsRow w.heap.size 50 2 v l.length (pv l) ∧ Below w.heap.size w w'
/-- The head of a round over the bounds. -/
def BrRel (n m D X : Nat) (w0 : World) (s b : Value) (wr : World) : Prop :=
  ∃ K S : Nat, b = .int .i64 (K : Int) ∧ s = .int .i64 (S : Int) ∧ apN n m ≤ K ∧ K ≤ 4194305 ∧ S ≤ X ∧ Hid (S + bndS (clQ n m) D K = X) ∧ Below w0.heap.size w0 wr
/-- The head of a round over the rows. -/
def BqRel (A B : Option Addr) (n m c d k F G hi : Nat) (x y : List Int) (w0 : World) (v i : Value) (wr : World) : Prop :=
  ∃ (a : Nat) (Rs : Nat → Nat), a ≤ n ∧ i = .int .i64 (a : Int) ∧ SrA A B n m c d k F G a x y w0 wr ∧ WbO x y k (sdL n m k) (sdH n m k) m hi a Rs v wr ∧ hi ≤ wr.heap.size
theorem SrA.kept {A B : Option Addr} {n m c d k F G i : Nat} {x y : List Int} {w0 wr w' : World} {S : Nat → Prop} (h : SrA A B n m c d k F G i x y w0 wr) (hk : Kp S wr w') (hF : ¬ S F) (hG : ¬ S G) (hS : ∀ z, S z → w0.heap.size ≤ z) : SrA A B n m c d k F G i x y w0 w' := by
  obtain ⟨g, s1, s2⟩ := h.row
  exact ⟨⟨g, s1.kept hk hF hG, s2⟩, h.below.trans (hk.below hS h.below.size), h.hF, h.hG⟩

set_option maxRecDepth 100000 in
set_option maxHeartbeats 3200000 in
theorem brun_any (A B : Option Addr) (n m c d : Nat) (x y : List Int) (w : World) (hx : x.length = n) (hy : y.length = m) (hn : n ≤ 1048576) (hm : m ≤ 1048576) (hd : m ≤ d) (r1 : Row w A (iv x)) (r2 : Row w B (iv y)) :
    Calls Try.prog 10 #[.slice A n c, .slice B m d] w (BrMade x y w) := by
  obtain ⟨j0, ji, jz0, jz1, jz2⟩ := info_parts Try.infoWay
  have CA := Lib.hid (fun w => bapart_any n m w hn hm)
  have CC : Hid (∀ (K : Nat) w, K ≤ 4194305 → Calls Try.prog 12 #[.int .i64 (n : Int), .int .i64 (m : Int), .int .i64 (K : Int)] w fun e w' => e = .returned (.int .i64 (clQ n m K : Nat)) ∧ w' = w) := fun K w hK => by
    have := pcells_any n m K w ⟨by omega, by omega⟩
    rw [clI_in _ _ _ hn hm] at this
    exact this
  have hdl := dist_le x y
  rw [hx, hy] at hdl
  have hX := bnd_small (n := n) (m := m) (d := dist x y) hn hm (by omega)
  have hap := dist_apart x y
  rw [hx, hy] at hap
  have hapb : apN n m ≤ 1048576 := by unfold apN; omega
  have HL : Hid (∀ K, clQ n m K ≤ 1099513724929) := fun K => clQ_le n m K hn hm
  have HY : Hid (∀ w' v l X, bndS (clQ n m) (dist x y) (apN n m) = X → goodB x y l = true → l.length = lcs x y → w'.ownsRow w.heap.size 50 2 v l.length (pv l) → Below w.heap.size w w' → BrMade x y w (.returned (.tuple #[v, .int .i64 (X : Int)])) w') := fun w' v l X e1 e2 e3 e4 e5 => ⟨v, l, by rw [hx, hy, e1], ⟨e2, e3⟩, e4, e5⟩
  have HS : Hid (∀ K wr, apN n m ≤ K → K ≤ 4194305 → Below w.heap.size w wr → Calls Try.prog 20 #[.slice A n c, .slice B m d, .int .i64 (K : Int)] wr fun e w' => ∃ F G, e = .returned (.pointer (some ⟨F, 0, none⟩)) ∧ SrA A B n m c d K F G 0 x y w w') := fun K wr e1 e2 e3 =>
    (newStrip_any A B n m c d K x y wr hx hy hn hm e1 (by omega)).mono fun e w' ⟨F, G, g, q1, q2, q3, q4, q5, q6⟩ => ⟨F, G, q1, ⟨g, q2, q3⟩, e3.trans (q6.mono e3.size), Nat.le_trans e3.size q4, Nat.le_trans e3.size q5⟩
  have HNx : Hid (∀ K F G i wr, apN n m ≤ K → i + 1 ≤ n → SrA A B n m c d K F G i x y w wr → Calls Try.prog 21 #[.pointer (some ⟨F, 0, none⟩)] wr fun e w' => ∃ R, e = .returned (.slice (some ⟨R, 0, none⟩) (nwR (sdL n m K) (sdH n m K) m (i + 1)) (nwR (sdL n m K) (sdH n m K) m (i + 1))) ∧ AdV A B n m c d K (sdL n m K) (sdH n m K) F G i R x y wr w' ∧ SrA A B n m c d K F G (i + 1) x y w w') := fun K F G i wr e1 e2 e3 =>
    e3.next hx hy hn hm e1 hd r1 r2 e2
  have HEn : Hid (∀ K F G wr, SrA A B n m c d K F G n x y w wr → ∃ E : Nat, E ≤ 8388608 ∧ (dist x y ≤ K → E = dist x y) ∧ (K < dist x y → K < E) ∧ ∀ q, Calls Try.prog 22 #[.pointer (some ⟨F, 0, none⟩)] (wr.drewN q) fun e w' => e = .returned (.int .i64 (E : Int)) ∧ ∃ r, w' = wr.drewN r) := fun K F G wr e => e.end hx hy hn hm
  have HBk : Hid (∀ K F G hi Rs v wr, apN n m ≤ K → dist x y ≤ K → SrA A B n m c d K F G n x y w wr → WbO x y K (sdL n m K) (sdH n m K) m hi n Rs v wr → Calls Try.prog 24 #[.pointer (some ⟨F, 0, none⟩), v] wr (BbMade x y wr)) := fun K F G hi Rs v wr e1 e2 e3 e4 => by
    obtain ⟨g, q1, q2⟩ := e3.row
    obtain ⟨gw, cw, rfl, hrd⟩ := e4.read
    exact bback_any A B n m c d K F G gw 0 n cw g x y wr hx hy hn hm e1 e2 (r1.below e3.below) (r2.below e3.below) q1 q2 (Nat.le_refl _) hrd
  obtain ⟨X, hXe⟩ : ∃ X, bndS (clQ n m) (dist x y) (apN n m) = X := ⟨_, rfl⟩
  have HI : Hid (BrRel n m (dist x y) X w (.int .i64 0) (.int .i64 (apN n m : Nat)) w) := ⟨apN n m, 0, rfl, rfl, Nat.le_refl _, by omega, Nat.zero_le _, by show 0 + _ = _; rw [Nat.zero_add, hXe], Below.refl _ _⟩
  rw [hXe] at hX
  have HXe := Lib.hid hXe
  obtain ⟨D, hD⟩ : ∃ D, dist x y = D := ⟨_, rfl⟩
  rw [hD] at hdl hap HY HEn HBk HI HXe
  clear r1 r2 hx hy hd hXe hD
  go_enter Try.func10, Try.ntmps10
  go_wp2_with fail
  refine (CA.out _).mono ?_
  rintro e w1 ⟨rfl, rfl⟩
  clear CA
  go_wp2_with fail
  go_loopw [6, 7] (fun s b wr => BrRel n m D X w1 s b wr) (fun _ b _ => 4194306 - (intOf b).toNat)
  case atStart => exact HI.out
  case round =>
    clear HI
    obtain ⟨K, S, rfl, rfl, hK1, hK2, hSX, hSS, hbw⟩ := hrel
    have CS := Lib.hid (HS.out K wr hK1 hK2 hbw)
    have CK := Lib.hid (fun w => CC.out K w hK2)
    have hge := bndS_ge (clQ n m) D K
    have hS2 : S + clQ n m K ≤ X := by have := hSS.out; omega
    have HSn : Hid ((D ≤ K → S + clQ n m K = X) ∧ (K < D → (S + clQ n m K) + bndS (clQ n m) D (2 * K + 1) = X)) := by
      have e := hSS.out
      refine ⟨fun h => ?_, fun h => ?_⟩
      · rw [bndS_last h] at e; exact e
      · rw [bndS_more h] at e; omega
    clear HS hbw CC hSS hge
    generalize clQ n m K = f at *
    go_wp2_with fail
    refine (CK.out _).mono ?_
    rintro e w2 ⟨rfl, rfl⟩
    clear CK
    go_wp2_with fail
    refine CS.out.mono ?_
    rintro e w3 ⟨F, G, rfl, hA⟩
    clear CS
    have hFG : F < w3.heap.size ∧ G < w3.heap.size := by
      obtain ⟨g, q1, _⟩ := hA.row
      exact q1.lt
    have HA3 := Lib.hid hA
    clear hA
    go_wp2_with (at_make; refine wpList_make_own _ rfl _ _ 46 rfl w3.heap.size 41 j0 (.slice none 0 0) 1 Try.underlying46 ji jz0 jz1 .i64 .i64 _ n rfl rfl (by simp) (by rw [jz2]; omega) (by unfold maxLen; omega) (Nat.le_refl _) ?_)
    intro w4 hown hg4
    obtain ⟨hi, hhi⟩ : ∃ z, w3.heap.size = z := ⟨_, rfl⟩
    rw [hhi] at hown hFG ⊢
    have hw1hi : w1.heap.size ≤ hi := by rw [← hhi]; exact HA3.out.below.size
    have HIq : Hid (BqRel A B n m c d K F G hi x y w1 (.slice (some ⟨hi, 0, none⟩) 0 n) (.int .i64 0) w4) := by
      have hb34 : Below w3.heap.size w3 w4 := (Below.refl _ _).grown hg4 (Nat.le_refl _) (fun k hk => by cases hk)
      exact ⟨0, fun _ => 0, Nat.zero_le _, rfl, HA3.out.kept (Kp.of_below (fun _ => False) hb34) id id (fun _ h => h.elim), ⟨hown, fun q h => absurd h (by omega), fun q h => absurd h (by omega), ⟨hi, n, rfl⟩⟩, by rw [← hhi]; exact hb34.size⟩
    clear hown hg4 HA3 hhi
    go_wp2_with fail
    go_loopw [9, 34] (fun v i wr => BqRel A B n m c d K F G hi x y w1 v i wr) (fun _ i _ => n - (intOf i).toNat)
    case atStart => exact HIq.out
    case round =>
      clear HIq
      obtain ⟨a, Rs, ha, rfl, hA, hW, hsz⟩ := hrel
      by_cases hlt : a < n
      · have CN := Lib.hid (HNx.out K F G a _ hK1 hlt hA)
        have HWr := Lib.hid hW
        clear HNx HEn HY HBk hA hW HSn HL
        go_wp2_with fail
        refine CN.out.mono ?_
        rintro e w7 ⟨R, rfl, hV, hA7⟩
        have hW7 := HWr.out.kept hV.keep (fun z h1 h2 h3 => by rcases h3 with h3 | h3 <;> omega)
        have hRl : hi ≤ R := Nat.le_trans hsz hV.new
        have hs7 : hi ≤ w7.heap.size := Nat.le_trans hsz hV.keep.size
        have hown := hW7.own
        have HN : Hid (∀ v' w', w'.ownsRow hi 41 1 v' (a + 1) (((List.range a).map fun q => wbV (sdL n m K) (sdH n m K) m (Rs q) q) ++ [wbV (sdL n m K) (sdH n m K) m R a]) → (w7.alloc (.cells #[.slice (some ⟨R, 0, none⟩) (nwR (sdL n m K) (sdH n m K) m (a + 1)) (nwR (sdL n m K) (sdH n m K) m (a + 1))] 41)).grownBy w' u9.ownBlock → BqRel A B n m c d K F G hi x y w1 v' (.int .i64 ((a + 1 : Nat) : Int)) w') := fun v' w' g1 g2 => by
          have k8 : Kp (fun z => hi ≤ z) w7 w' := Kp.of_app g2 (fun z e => (hown.lt z e).1)
          exact ⟨a + 1, _, hlt, rfl, hA7.kept k8 (by omega) (by omega) (fun z e => by omega), hW7.app hV.bits hRl g1 g2, Nat.le_trans hs7 k8.size⟩
        have hyv : wbV (sdL n m K) (sdH n m K) m R a = .slice (some ⟨R, 0, none⟩) (nwR (sdL n m K) (sdH n m K) m (a + 1)) (nwR (sdL n m K) (sdH n m K) m (a + 1)) := rfl
        rw [hyv] at HN
        clear CN HWr hV hA7 hW7 hyv
        generalize nwR (sdL n m K) (sdH n m K) m (a + 1) = NW at *
        go_wp2_with (at_builtin; refine wpList_append_own _ rfl (.tmp 36) (.tmp 39) 46 rfl hi 41 j0 (.slice none 0 0) 1 24 Try.underlying46 ji jz0 jz1 jz2 rfl (by decide) _ _ _ rfl (hown.alloc _) ⟨w7.heap.size, 0, none⟩ 1 1 [_] rfl rfl (cell_one_new _ _ _) (one_slice _ _ _) (by unfold maxLen; omega) (by omega) (by simp; omega) ?_)
        intro v' w8 g1 g2 _
        have R' := Lib.hid (HN.out v' w8 g1 g2)
        clear HN g1 g2 hown
        go_wp2_with fail
        go_roundw
        case rel => first | exact R'.out | ((repeat apply Exists.intro); exact ⟨R'.out, rfl⟩)
        case measure => simp [intOf]; omega
      · obtain rfl : n = a := by omega
        obtain ⟨E, e1, e2, e3, CE⟩ := HEn.out K F G _ hA
        have HCE := Lib.hid CE
        have HB2 : Hid (∀ q, Below w1.heap.size w1 (wr.drewN q)) := fun q => below_drewN hA.below q
        by_cases hE : E ≤ K
        · have hdk : D ≤ K := by omega
          have CB : Hid (∀ q, Calls Try.prog 24 #[.pointer (some ⟨F, 0, none⟩), u9] (wr.drewN q) (BbMade x y (wr.drewN q))) := fun q =>
            HBk.out K F G hi Rs u9 _ hK1 hdk (hA.kept ((Kp.refl (fun _ => False) _).drewN q) id id (fun _ h => h.elim)) (hW.kept ((Kp.refl (fun _ => False) _).drewN q) (fun _ _ _ => id))
          obtain rfl : S + f = X := HSn.out.1 hdk
          clear HNx HEn HBk hA hW HSn e2 e3 CE HL
          go_wp2_with fail
          refine (HCE.out 0).mono ?_
          rintro e w4 ⟨rfl, q, rfl⟩
          have CB1 := Lib.hid (CB.out q)
          have HB3 := Lib.hid (HB2.out q)
          clear HCE CB HB2
          go_wp2_with fail
          refine CB1.out.mono ?_
          rintro e w5 ⟨l, ⟨g1, g2⟩, v, rfl, g3, g4⟩
          have HF := Lib.hid (HY.out w5 v l _ HXe.out g1 g2 (own_lowerS g3 HB3.out.size) (below_go HB3.out g4))
          clear HY CB1 HB3 g1 g2 g3 g4 HXe
          go_wp2_with fail
          go_ret2
          exact HF.out
        · have hdk : K < D := by omega
          have R5 : Hid (∀ q, BrRel n m D X w1 (.int .i64 ((S + f : Nat) : Int)) (.int .i64 ((2 * K + 1 : Nat) : Int)) (wr.drewN q)) := fun q => ⟨2 * K + 1, S + f, rfl, rfl, by omega, by omega, hS2, HSn.out.2 hdk, HB2.out q⟩
          have CX := Lib.hid (fun w => bnext_any K w (by omega))
          clear HNx HEn HBk hA hW HSn e2 e3 CE HB2 HY HL
          go_wp2_with fail
          refine (HCE.out 0).mono ?_
          rintro e w4 ⟨rfl, q, rfl⟩
          clear HCE
          go_wp2_with fail
          refine (CX.out _).mono ?_
          rintro e w5 ⟨rfl, rfl⟩
          clear CX
          go_wp2_with fail
          go_roundw
          case rel => first | exact R5.out _ | ((repeat apply Exists.intro); exact ⟨R5.out _, rfl⟩)
          case measure => simp [intOf]; omega

end Go.Proofs.Ythpinbmimgojnaa

namespace Go.Proofs.Ythpinbmimgojnaa
open Go.RowKit

theorem cells_w (n m k : Int) (w : World) (hk : I64 k) :
    Calls Try.prog 12 #[.int .i64 n, .int .i64 m, .int .i64 k] w fun e w' => e = .returned (.int .i64 (clI n m k : Nat)) ∧ Below w.heap.size w w' :=
  (pcells_any n m k w hk).mono fun _ _ ⟨h1, h2⟩ => ⟨h1, by rw [h2]; exact Below.refl _ _⟩
theorem rcells_w (n m k : Int) (w : World) (hk : I64 k) :
    Calls Try.prog 13 #[.int .i64 n, .int .i64 m, .int .i64 k] w fun e w' => e = .returned (.int .i64 (clI n m k : Nat)) ∧ Below w.heap.size w w' :=
  (rcells_any n m k w hk).mono fun _ _ ⟨h1, h2⟩ => ⟨h1, by rw [h2]; exact Below.refl _ _⟩
theorem rbands_w (N M d : Nat) (w : World) (hN : N ≤ 1048576) (hM : M ≤ 1048576) (hd : d ≤ 2097152) :
    Calls Try.prog 18 #[.int .i64 (N : Int), .int .i64 (M : Int), .int .i64 (d : Int)] w fun e w' => e = .returned (.int .i64 (bndS (clQ N M) d (apN N M) : Nat)) ∧ Below w.heap.size w w' :=
  (rbands_any N M d w hN hM hd).mono fun _ _ ⟨h1, h2⟩ => ⟨h1, by rw [h2]; exact Below.refl _ _⟩
/-- What Within tells: the distance, the steps, the error. -/
def wiD (x y : List Int) (k : Int) : Nat := if k < 0 then 0 else if (dist x y : Int) ≤ k then dist x y else 0
def wiS (x y : List Int) (k : Int) : Nat := if k < 0 then 0 else if (dist x y : Int) ≤ k then clI x.length y.length k else 0
def wiE (x y : List Int) (k : Int) : Int := if k < 0 then 1 else if (dist x y : Int) ≤ k then 0 else 3
theorem within_w (A B : Option Addr) (n m c d : Nat) (k : Int) (x y : List Int) (w : World) (hx : x.length = n) (hy : y.length = m) (hn : n ≤ 1048576) (hm : m ≤ 1048576) (hd : m ≤ d) (hk : I64 k) (r1 : Row w A (iv x)) (r2 : Row w B (iv y)) :
    Calls Try.prog 9 #[.slice A n c, .slice B m d, .int .i64 k] w fun e w' => e = .returned (.tuple #[.int .i64 (wiD x y k : Nat), .int .i64 (wiS x y k : Nat), .int .i64 (wiE x y k)]) ∧ Below w.heap.size w w' := by
  unfold wiD wiS wiE
  by_cases h : k < 0
  · rw [if_pos h, if_pos h, if_pos h]
    exact (bwithin_neg A B n m c d k w h).mono fun _ _ ⟨h1, h2⟩ => ⟨h1, by rw [h2]; exact Below.refl _ _⟩
  · rw [if_neg h, if_neg h, if_neg h]
    obtain ⟨K, rfl⟩ : ∃ K : Nat, k = (K : Int) := ⟨k.toNat, by omega⟩
    refine (bwithin_any A B n m c d K x y w hx hy hn hm hd (by have := hk.2; omega) r1 r2).mono fun e w' ⟨h1, h2⟩ => ⟨?_, h2⟩
    rw [h1]
    by_cases c : dist x y ≤ K
    · have c' : (dist x y : Int) ≤ (K : Int) := by omega
      rw [if_pos c, if_pos c', if_pos c', if_pos c', clI_in _ _ _ (by omega) (by omega)]
    · have c' : ¬ (dist x y : Int) ≤ (K : Int) := by omega
      rw [if_neg c, if_neg c', if_neg c', if_neg c']
      rfl
theorem wi_neg {x y : List Int} {k : Int} (h : k < 0) : wiD x y k = 0 ∧ wiS x y k = 0 ∧ wiE x y k = 1 := by
  unfold wiD wiS wiE
  rw [if_pos h, if_pos h, if_pos h]
  exact ⟨rfl, rfl, rfl⟩
theorem wi_far {x y : List Int} {k : Int} (h0 : ¬ k < 0) (h : k < (dist x y : Int)) : wiD x y k = 0 ∧ wiS x y k = 0 ∧ wiE x y k = 3 := by
  unfold wiD wiS wiE
  rw [if_neg h0, if_neg h0, if_neg h0, if_neg (by omega), if_neg (by omega), if_neg (by omega)]
  exact ⟨rfl, rfl, rfl⟩
theorem wi_near {x y : List Int} {k : Int} (h0 : ¬ k < 0) (h : (dist x y : Int) ≤ k) : wiD x y k = dist x y ∧ wiS x y k = clI x.length y.length k ∧ wiE x y k = 0 := by
  unfold wiD wiS wiE
  rw [if_neg h0, if_neg h0, if_neg h0, if_pos h, if_pos h, if_pos h]
  exact ⟨rfl, rfl, rfl⟩

/-- A length out of a byte. -/
theorem rem61 (i : Int) (h : 0 ≤ i) : ∃ p : Nat, p ≤ 60 ∧ i % 61 = (p : Int) ∧ i.tmod 61 = (p : Int) :=
  ⟨(i % 61).toNat, by omega, by omega, by rw [Int.tmod_eq_emod_of_nonneg h]; omega⟩

end Go.Proofs.Ythpinbmimgojnaa

namespace Go.Proofs.Ythpinbmimgojnaa
open Go.RowKit

set_option maxRecDepth 100000 in
set_option maxHeartbeats 1600000 in
theorem awake19 (w : World) : Calls Try.prog 11 #[] w (Yes w) := by
  go_enter Try.func11, Try.ntmps11
  go_wp2_with fail
  refine (within_w _ _ 2 2 2 2 (1) [1, 2] [2, 1] _ rfl rfl (by decide) (by decide) (by decide) (by unfold I64; decide) ((row_lit (iv [1, 2]) 3 (by simp)).alloc _) (row_lit (iv [2, 1]) 3 (by simp))).mono ?_
  rintro e w1 ⟨rfl, hb⟩
  have B := below_go (below_al (below_al (Below.refl _ _) _) _) hb
  have bb := B
  clear B hb
  rw [show wiD [1, 2] [2, 1] (1) = 0 by decide +kernel, show wiS [1, 2] [2, 1] (1) = 0 by decide +kernel, show wiE [1, 2] [2, 1] (1) = 3 by decide +kernel]
  go_wp2_with fail
  refine (within_w _ _ 2 2 2 2 (2) [1, 2] [2, 1] _ rfl rfl (by decide) (by decide) (by decide) (by unfold I64; decide) ((row_lit (iv [1, 2]) 3 (by simp)).alloc _) (row_lit (iv [2, 1]) 3 (by simp))).mono ?_
  rintro e w2 ⟨rfl, hb⟩
  have B := below_go (below_al (below_al (Below.refl _ _) _) _) hb
  replace bb := below_go bb B
  clear B hb
  rw [show wiD [1, 2] [2, 1] (2) = 2 by decide +kernel, show wiS [1, 2] [2, 1] (2) = 7 by decide +kernel, show wiE [1, 2] [2, 1] (2) = 0 by decide +kernel]
  go_wp2_with fail
  refine (cells_w (2) (2) (0) _ (by unfold I64; decide)).mono ?_
  rintro e w3 ⟨rfl, hb⟩
  have B := below_go (Below.refl _ _) hb
  replace bb := below_go bb B
  clear B hb
  rw [show clI (2) (2) (0) = 3 by decide +kernel]
  go_wp2_with fail
  go_ret
  exact Yes.of bb

end Go.Proofs.Ythpinbmimgojnaa
