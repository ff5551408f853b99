/-
  Words and contracts that the proof leans on.
-/
import Derived.Test.YtmhnciljbdflcaaM18
import Derived.Test.YtmhnciljbdflcaaM21
import Derived.Test.YtmhnciljbdflcaaM13
import Derived.Test.YtmhnciljbdflcaaM22
import Derived.Test.YtmhnciljbdflcaaM9
import Derived.Test.YtmhnciljbdflcaaM3
import Derived.RangeFuncBox
import Derived.Test.YtmhnciljbdflcaaM4
import Derived.Test.YtmhnciljbdflcaaM5
import Derived.Test.YtmhnciljbdflcaaM8
namespace Go.Proofs.Ytmhnciljbdflcaa
open Go.RowKit

/-- What the function F has in memory behind i rows, thresholds t; it stays where numbers turn, and leaves numbers alone. -/
structure SwK (a b : List Int) (B F : Nat) (G : Value → Value → Value → Array Value) (St : Nat → Nat → List Int → World → Prop) : Prop where
  next : ∀ {i K : Nat} {t : List Int} {w : World}, St i K t w → St (i + 1) t.length t w
  low : ∀ {i K k : Nat} {t : List Int} {w : World}, St i K t w → k ≤ K → St i k t w
  keep : ∀ {i K : Nat} {t : List Int} {w w' : World}, St i K t w → w.heap.size ≤ w'.heap.size → (∀ (g : Nat) (o : Obj), w.heap[g]? = some o → Oth o → w'.heap[g]? = some o) → St i K t w'
  call : ∀ {i K : Nat} {t : List Int} {w : World} (j : Nat) (x : Int), Asc t → t.length ≤ 1048576 → i ≤ 1048576 → j ≤ 1048576 → St i K t w → cntL t j ≤ K → a[i]? = some x → b[j]? = some x → B ≤ w.heap.size →
    Calls Try.prog F (G (.int .i64 (i : Int)) (.int .i64 (j : Int)) (.int .i64 (cntL t j : Nat))) w fun e w' => (∃ v, e = .returned v) ∧ St i (cntL t j) (putT t j) w' ∧ Below B w w' ∧ ∀ (g : Nat) (o : Obj), w.heap[g]? = some o → NumO o → w'.heap[g]? = some o

/-- What lies in memory between two steps. -/
structure SwM (St : Nat → Nat → List Int → World → Prop) (lo Bm : Nat) (f : Int → Value) (hi : Nat) (b : List Int) (B : Nat) (w0 : World) (i K : Nat) (t t' : List Int) (v : Value) (wr : World) : Prop where
  own : wr.ownsRow hi 3 1 v t'.length (iv t')
  idx : IdxF lo Bm f hi b wr
  st : St i K t wr
  below : Below B w0 wr
  hi_le : hi ≤ wr.heap.size
  b_hi : B ≤ hi
theorem SwM.drewN {a b : List Int} {B F : Nat} {G : Value → Value → Value → Array Value} {St : Nat → Nat → List Int → World → Prop} (S : SwK a b B F G St) {lo Bm hi i K : Nat} {f : Int → Value} {w0 wr : World} {t t' : List Int} {v : Value} (h : SwM St lo Bm f hi b B w0 i K t t' v wr) (q : Nat) : SwM St lo Bm f hi b B w0 i K t t' v (wr.drewN q) :=
  ⟨own_below h.own (below_drewN (Below.refl _ _) q) (Nat.le_refl _), h.idx.drewN q, S.keep h.st (Nat.le_refl _) (fun _ _ hh _ => hh), below_drewN h.below q, h.hi_le, h.b_hi⟩
theorem SwM.step {a b : List Int} {B F : Nat} {G : Value → Value → Value → Array Value} {St : Nat → Nat → List Int → World → Prop} (S : SwK a b B F G St) {lo Bm hi i K : Nat} {f : Int → Value} {w0 wr w1 : World} {t t' t'' : List Int} {v v' : Value} (h : SwM St lo Bm f hi b B w0 i K t t' v wr) (ho : OwJ hi v t'' wr v' w1) : SwM St lo Bm f hi b B w0 i K t t'' v' w1 :=
  ⟨ho.1, h.idx.grown ho.2.1 (fun k e => (h.own.lt k e).1), S.keep h.st ho.2.1.size (oth_grown h.own ho.2.1), h.below.grown ho.2.1 (Nat.le_trans h.b_hi h.hi_le) (fun k e => Nat.le_trans h.b_hi (h.own.lt k e).1), Nat.le_trans h.hi_le ho.2.1.size, h.b_hi⟩
theorem SwM.called {a b : List Int} {B F : Nat} {G : Value → Value → Value → Array Value} {St : Nat → Nat → List Int → World → Prop} (_ : SwK a b B F G St) {lo Bm hi i K k : Nat} {f : Int → Value} {w0 w1 w2 : World} {t t' : List Int} {v : Value} (h : SwM St lo Bm f hi b B w0 i K t t' v w1) (hs : St i k t' w2) (hb : Below B w1 w2) (hk : ∀ (g : Nat) (o : Obj), w1.heap[g]? = some o → NumO o → w2.heap[g]? = some o) : SwM St lo Bm f hi b B w0 i k t' t' v w2 :=
  ⟨own_num h.own hk, h.idx.keep (fun g o _ hh hn => hk g o hh hn), hs, h.below.trans hb, Nat.le_trans h.hi_le hb.size, h.b_hi⟩

/-- What is left to be put, and where it goes at most. -/
def SwP (x : Int) (b T t : List Int) (f K : Nat) : Prop := Asc t ∧ f ≤ (plcR x b).length ∧ rowTh t ((plcR x b).take f) = T ∧ ∀ j, 0 < f → (plcR x b)[f - 1]? = some j → cntL t j ≤ K
theorem row_ge (t : List Int) : ∀ l : List Int, t.length ≤ (rowTh t l).length
  | [] => Nat.le_refl _
  | j :: l => Nat.le_trans (row_ge t l) (put_length (rowTh t l) j).1
theorem SwP.le {x : Int} {b T t : List Int} {f K : Nat} (h : SwP x b T t f K) : t.length ≤ T.length := by
  obtain ⟨_, _, h3, _⟩ := h
  rw [← h3]
  exact row_ge _ _
theorem SwP.start {x : Int} {b T t : List Int} (h : Asc t) (hT : rowTh t (plcR x b) = T) : SwP x b T t (plcR x b).length t.length := ⟨h, Nat.le_refl _, by rw [List.take_length, hT], fun j _ _ => cnt_le t j⟩
theorem SwP.done {x : Int} {b T t : List Int} {K : Nat} (h : SwP x b T t 0 K) : t = T := by
  obtain ⟨_, _, h3, _⟩ := h
  rw [← h3, List.take_zero]
  rfl
theorem asc_plcR (x : Int) (b : List Int) : Asc (plcR x b) := asc_map_range _ _
theorem SwP.step {x : Int} {b T t : List Int} {f f1 K k : Nat} (h : SwP x b T t f K) (hf : f1 < f) (hk : ∀ i y, f1 ≤ i → ((plcR x b).take f)[i]? = some y → cntL t y = k) : ∃ j : Nat, (plcR x b)[f1]? = some (j : Int) ∧ b[j]? = some x ∧ cntL t j = k ∧ k ≤ K ∧ SwP x b T (putT t j) f1 k := by
  obtain ⟨h1, h2, h3, h4⟩ := h
  have hl : f1 < (plcR x b).length := by omega
  have e0 : (plcR x b)[f1]? = some (plcR x b)[f1] := List.getElem?_eq_getElem hl
  have hm : (plcR x b)[f1] ∈ plcR x b := List.getElem_mem _
  obtain ⟨j, hj⟩ : ∃ j : Nat, (plcR x b)[f1] = (j : Int) := by
    have := hm
    unfold plcR at this
    obtain ⟨j, _, e⟩ := List.mem_map.1 this
    exact ⟨j, e.symm⟩
  rw [hj] at e0 hm
  have hkk : ∀ i y, f1 ≤ i → i < f → (plcR x b)[i]? = some y → cntL t y = k := fun i y g1 g2 g3 => hk i y g1 (by rw [List.getElem?_take, if_pos g2]; exact g3)
  have hkj := hkk f1 _ (Nat.le_refl _) hf e0
  refine ⟨j, e0, mem_plcR.1 hm, hkj, ?_, asc_put h1 _, by omega, ?_, fun j' hf' hj' => ?_⟩
  · have hl2 : f - 1 < (plcR x b).length := by omega
    have e1 : (plcR x b)[f - 1]? = some (plcR x b)[f - 1] := List.getElem?_eq_getElem hl2
    rw [← hkk (f - 1) _ (by omega) (by omega) e1]
    exact h4 _ (by omega) e1
  · rw [← h3]
    have e2 : ((plcR x b).take f)[f1]? = some (j : Int) := by rw [List.getElem?_take, if_pos hf]; exact e0
    rw [row_cut h1 (asc_take (asc_plcR x b) f) e2 hk, List.take_take, Nat.min_eq_left (by omega)]
  · have hlt : j' < (j : Int) := by
      obtain ⟨g1, e1⟩ := List.getElem?_eq_some_iff.1 hj'
      obtain ⟨g2, e2⟩ := List.getElem?_eq_some_iff.1 e0
      rw [← e1, ← e2]
      exact List.pairwise_iff_getElem.1 (asc_plcR x b) _ _ _ _ (by omega)
    rw [cnt_put h1, if_pos (by omega), ← hkj]
    exact cnt_mono t (by omega)

/-- The heads of the rounds. -/
def SwRel (St : Nat → Nat → List Int → World → Prop) (lo Bm : Nat) (f : Int → Value) (hi : Nat) (a b : List Int) (B : Nat) (w0 : World) (v i : Value) (wr : World) : Prop :=
  ∃ k : Nat, k ≤ a.length ∧ i = .int .i64 (k : Int) ∧ SwM St lo Bm f hi b B w0 k (thrL (px a b k) b.length).length (thrL (px a b k) b.length) (thrL (px a b k) b.length) v wr
def SwIn (St : Nat → Nat → List Int → World → Prop) (lo Bm : Nat) (f : Int → Value) (hi : Nat) (b : List Int) (B : Nat) (w0 : World) (i : Nat) (x : Int) (A : Option Addr) (c : Nat) (T : List Int) (v js : Value) (wr : World) : Prop :=
  ∃ (p K : Nat) (t : List Int), js = .slice A p c ∧ SwM St lo Bm f hi b B w0 i K t t v wr ∧ SwP x b T t p K
/-- What sweep leaves. -/
def SwMade (St : Nat → Nat → List Int → World → Prop) (a b : List Int) (B : Nat) (w0 : World) (e : Ending) (w' : World) : Prop :=
  ∃ (v : Value) (K : Nat), e = .returned v ∧ w'.ownsRow B 3 1 v (thrL (px a b a.length) b.length).length (iv (thrL (px a b a.length) b.length)) ∧ St a.length K (thrL (px a b a.length) b.length) w' ∧ Below B w0 w'
theorem sw_done {St : Nat → Nat → List Int → World → Prop} {lo Bm : Nat} {f : Int → Value} {hi : Nat} {a b : List Int} {B K : Nat} {w0 wr : World} {v : Value} (h : SwM St lo Bm f hi b B w0 a.length K (thrL (px a b a.length) b.length) (thrL (px a b a.length) b.length) v wr) : SwMade St a b B w0 (.returned v) wr :=
  ⟨v, K, rfl, own_lower h.own h.b_hi, h.st, h.below⟩
theorem thr_le (a b : List Int) (k : Nat) : (thrL (px a b k) b.length).length ≤ b.length := by
  rw [thr_length (px_zero_right a b k) (fun j => px_h a b k j)]
  exact Nat.le_trans (lcs_le_right _ _) (by rw [List.length_take]; omega)

end Go.Proofs.Ytmhnciljbdflcaa

namespace Go.Proofs.Ytmhnciljbdflcaa
open Go.RowKit

theorem SwM.next {a b : List Int} {B F : Nat} {G : Value → Value → Value → Array Value} {St : Nat → Nat → List Int → World → Prop} (S : SwK a b B F G St) {lo Bm hi i K : Nat} {f : Int → Value} {w0 wr : World} {t : List Int} {v : Value} (h : SwM St lo Bm f hi b B w0 i K t t v wr) : SwM St lo Bm f hi b B w0 (i + 1) t.length t t v wr :=
  ⟨h.own, h.idx, S.next h.st, h.below, h.hi_le, h.b_hi⟩
theorem SwM.low {a b : List Int} {B F : Nat} {G : Value → Value → Value → Array Value} {St : Nat → Nat → List Int → World → Prop} (S : SwK a b B F G St) {lo Bm hi i K k : Nat} {f : Int → Value} {w0 wr : World} {t : List Int} {v : Value} (h : SwM St lo Bm f hi b B w0 i K t t v wr) (hk : k ≤ K) : SwM St lo Bm f hi b B w0 i k t t v wr :=
  ⟨h.own, h.idx, S.low h.st hk, h.below, h.hi_le, h.b_hi⟩

theorem thr_zero (a b : List Int) : thrL (px a b 0) b.length = [] := by
  refine List.eq_nil_of_length_eq_zero ?_
  rw [thr_length (px_zero_right a b 0) (fun j => px_h a b 0 j), px_zero_left]

set_option maxRecDepth 100000 in
set_option maxHeartbeats 3200000 in
theorem sweep_any (F : Nat) (lb : Array Value) (G : Value → Value → Value → Array Value) (eg : ∀ args w, (callFunc F args).run Try.prog w = .ok (.enter F args) w) (hG : ∀ x y z, #[x, y, z] ++ lb = G x y z) (St : Nat → Nat → List Int → World → Prop)
    (A Bb : Option Addr) (n m c d : Nat) (a b : List Int) (w0 w : World) (S : SwK a b w0.heap.size F G St) (hn : a.length = n) (hm : b.length = m) (hb : n ≤ 1048576) (hb' : m ≤ 1048576) (hB : Below w0.heap.size w0 w) (h1 : Row w0 A (iv a)) (h2 : Row w0 Bb (iv b))
    (wa : ∀ x ∈ a, (Lit.int .i64 x).wf = true) (wb : ∀ x ∈ b, (Lit.int .i64 x).wf = true) (hs : St 0 0 [] w) :
    Calls Try.prog 18 #[.slice A n c, .slice Bb m d, .func (.func F) #[] lb] w (SwMade St a b w0.heap.size w0) := by
  obtain ⟨i0, hi0, hz0, hz1, hz2⟩ := info_parts Try.infoInt
  have CI := Lib.hid (indices_any Bb m d b w hm hb' (h2.below hB) wb)
  have HN := Lib.hid hn
  have HM := Lib.hid hm
  clear hn hm h2 wb
  go_enter Try.func18, Try.ntmps18
  go_wp2_with fail
  refine CI.out.mono ?_
  rintro e w1 ⟨lo, Bm, f, rfl, hI, hbI⟩
  have hbw1 := hB.trans (hbI.mono hB.size)
  obtain ⟨hi, hhi⟩ : ∃ hi, w1.heap.size = hi := ⟨_, rfl⟩
  have HS0 : Hid (SwM St lo Bm f hi b w0.heap.size w0 0 0 [] [] (.slice none 0 0) w1) := by
    refine ⟨World.ownsRow_nil _ _ _ _, ?_, S.keep hs hbI.size (fun g o hh _ => by rw [hbI.block g (Array.getElem?_eq_some_iff.1 hh).1]; exact hh), hbw1, by omega, by have := hbw1.size; omega⟩
    rw [hhi] at hI
    exact hI
  clear CI hI hbI hbw1 hhi hs hB
  go_wp2_with fail
  go_loopw [7, 19] (fun v i wr => SwRel St lo Bm f hi a b w0.heap.size w0 v i wr) (fun _ i _ => n - (RowKit.intOf i).toNat)
  case atStart =>
    refine ⟨0, Nat.zero_le _, rfl, ?_⟩
    rw [thr_zero a b]
    exact HS0.out
  case round =>
    clear HS0
    obtain ⟨i, hil, rfl, hM⟩ := hrel
    by_cases hlt : i < n
    · have hlt' : i < a.length := by rw [HN.out]; exact hlt
      obtain ⟨g, o, rfl, hc⟩ := (h1.below hM.below).int hlt'
      have HX : Hid (a[i]? = some a[i]) := List.getElem?_eq_getElem hlt'
      have hx := wa a[i] (List.getElem_mem _)
      generalize a[i] = x at *
      have hlook := hM.idx.map.look hx
      obtain ⟨Ax, cx, ef, hP1, hP2, _, hnx⟩ := own_slice (hM.idx.at_ x)
      rw [ef] at hlook
      have HT := thr_next a b i HX.out
      have HP0 := SwP.start (x := x) (b := b) (asc_thr (px a b i) b.length) HT
      have hTl : (thrL (px a b (i + 1)) b.length).length ≤ m := Nat.le_trans (thr_le a b (i + 1)) (Nat.le_of_eq HM.out)
      have HE : Hid (∀ v K wr, SwM St lo Bm f hi b w0.heap.size w0 i K (thrL (px a b (i + 1)) b.length) (thrL (px a b (i + 1)) b.length) v wr → SwRel St lo Bm f hi a b w0.heap.size w0 v (.int .i64 ((i + 1 : Nat) : Int)) wr) := fun v K wr h => ⟨i + 1, hlt', rfl, h.next S⟩
      have HIN := Lib.hid (show SwIn St lo Bm f hi b w0.heap.size w0 i x Ax cx (thrL (px a b (i + 1)) b.length) _ (.slice Ax (plcR x b).length cx) wr from ⟨_, _, _, rfl, hM, HP0⟩)
      have HRx : Hid (∀ wr, IdxF lo Bm f hi b wr → Row wr Ax (iv (plcR x b))) := fun wr h => by
        have := h.at_ x
        rw [ef] at this
        exact Row.of_own this
      generalize thrL (px a b (i + 1)) b.length = T at *
      have HPl : Hid (∀ t p K, SwP x b T t p K → p ≤ (plcR x b).length) := fun t p K h => h.2.1
      have hpc : ∀ p, p ≤ (plcR x b).length → p ≤ cx := fun p h => by omega
      obtain ⟨P, hP⟩ : ∃ P, (plcR x b).length = P := ⟨_, rfl⟩
      have HPm : P ≤ 1048576 := by
        rw [← hP]
        unfold plcR
        rw [List.length_map]
        have := List.length_filter_le (fun j => decide (b[j]? = some x)) (List.range b.length)
        rw [List.length_range] at this
        have h3 := HM.out
        omega
      rw [hP] at hlook HIN hP1 hpc HPl
      clear hM HP0 HT hP ef h1 wa
      go_wp2_with fail
      go_loopw [7, 11] (fun v js wr => SwIn St lo Bm f hi b w0.heap.size w0 i x Ax cx T v js wr) (fun _ js _ => lenV js)
      case atStart => exact HIN.out
      case round =>
        clear HIN
        obtain ⟨p, K, t, rfl, hM, HP⟩ := hrel
        have hpP := HPl.out _ _ _ HP
        by_cases hp : p = 0
        · subst hp
          obtain rfl := HP.done
          have R := Lib.hid (HE.out _ _ _ hM)
          clear hM HP HE HRx HPl S
          go_wp2_with fail
          go_roundw
          case rel => exact R.out
          case measure => first | omega | (simp [RowKit.intOf] <;> omega)
        · obtain ⟨Q, rfl⟩ : ∃ Q, p = Q + 1 := ⟨p - 1, by omega⟩
          have hle := HP.le
          obtain ⟨At, ct, rfl, ht1, ht2, rt, hnt⟩ := own_slice hM.own
          have rx := HRx.out _ hM.idx
          have C := Lib.hid (place_any At Ax t.length (Q + 1) ct cx t ((plcR x b).take (Q + 1)) _ rfl (by rw [List.length_take]; have := HP.2.1; omega) (by omega) (by omega) (by omega) HP.1 (asc_take (asc_plcR x b) _) rt (by rw [← iv_takeX]; exact rx.take _))
          have HMM := Lib.hid hM
          have HPP := Lib.hid HP
          clear hM HP rt rx
          go_wp2_with fail
          refine C.out.mono ?_
          rintro e w2 ⟨⟨k, f1, rfl, hkN, hf1, hkk⟩, q, rfl⟩
          obtain ⟨j, ej, hbj, hcj, hkK, HP1⟩ := HPP.out.step hf1 hkk
          have hM1 := HMM.out.drewN S q
          have hjm : j < m := by rw [← HM.out]; exact (List.getElem?_eq_some_iff.1 hbj).1
          have hne : iv (plcR x b) ≠ [] := fun e' => by
            have : plcR x b = [] := by simpa [iv] using e'
            rw [this] at ej
            simp at ej
          obtain ⟨gj, oj, rfl, hcj1⟩ := HRx.out _ hM1.idx hne
          have hcj2 := hcj1 f1 (.int .i64 (j : Int)) (by simp [iv, ej])
          have hsl := (slice_to (some ⟨gj, oj, none⟩) (Q + 1) cx f1 [] w0 (Row.nil _ _) (by omega)).1
          have hasc := HPP.out.1
          have hlen : t.length ≤ 1048576 := by omega
          have hB1 : w0.heap.size ≤ (wr.drewN q).heap.size := hM1.below.size
          have HRT : Hid (∀ v t' w4, SwM St lo Bm f hi b w0.heap.size w0 i k t' t' v w4 → SwP x b T t' f1 k → SwIn St lo Bm f hi b w0.heap.size w0 i x (some ⟨gj, oj, none⟩) cx T v (.slice (some ⟨gj, oj, none⟩) f1 cx) w4) := fun v t' w4 h1 h2 => ⟨f1, k, t', rfl, h1, h2⟩
          have HPa := Lib.hid HP1
          have HAs := Lib.hid hasc
          have HJb := Lib.hid hbj
          have HCj := Lib.hid hcj
          clear HPP HMM hkk hcj1 C hne ej HE HPl hpc HP1 hlook hasc hbj
          generalize wr.drewN q = wc at *
          by_cases hkn : k = t.length
          · have hput : putT t j = t ++ [(j : Int)] := by unfold putT; rw [if_pos (by rw [hcj]; exact hkn)]
            have HW : Hid (∀ v' w3, w3.ownsRow hi 3 1 v' (t.length + 1) (iv t ++ [.int .i64 (j : Int)]) → (wc.alloc (.cells #[.int .i64 (j : Int)] 3)).grownBy w3 (Value.slice At t.length ct).ownBlock → (v'.ownBlock = (Value.slice At t.length ct).ownBlock ∨ v'.ownBlock = some (wc.heap.size + 1)) → SwM St lo Bm f hi b w0.heap.size w0 i K t (putT t j) v' w3) := fun v' w3 q1 q2 q3 => by
              refine hM1.step S (((OwJ.refl hM1.own).call (below_a1 wc (.cells #[.int .i64 (j : Int)] 3))).step ?_)
              rw [hput]
              exact owj_app rfl q1 q2 (by simpa using q3)
            have ho1 := hM1.own
            have hhl := hM1.hi_le
            have hz : ((k : Int) == (t.length : Int)) = true := by simp; omega
            subst hkn
            clear hM1 hput hcj
            go_wp2_with (at_builtin; refine wpList_append_own_at _ rfl (.tmp 47) (.tmp 49) 25 rfl hi 3 i0 (.int .i64 0) 1 8 Try.underlying25 hi0 hz0 hz1 hz2 rfl (by decide) _ _ _ rfl (ho1.alloc _) ⟨wc.heap.size, 0, none⟩ 1 1 [_] rfl rfl (cell_one_new _ _ _) (one_int _ _) (by unfold maxLen; omega) (by omega) (by simp; omega) ?_)
            intro v' w3 hown' hg' _ h5
            have hM2 := Lib.hid (HW.out v' w3 hown' hg' (by simpa using h5))
            clear HW hown' hg' h5 ho1
            have hB3 : w0.heap.size ≤ w3.heap.size := hM2.out.below.size
            have CB := Lib.hid (S.call j x HAs.out hlen (by omega) (by omega) hM2.out.st (by rw [HCj.out]; exact hkK) HX.out HJb.out hB3)
            rw [HCj.out] at CB
            go_wp2_with fail
            refine (CB.out).mono ?_
            rintro e w4 ⟨⟨v4, rfl⟩, hs4, hb4, hk4⟩
            have R := Lib.hid (HRT.out _ _ _ (hM2.out.called S hs4 hb4 hk4) HPa.out)
            clear hs4 hb4 hk4 CB HRT hM2
            go_wp2_with fail
            go_roundw
            case rel => exact R.out
            case measure => simp [lenV] <;> omega
          · have hlt3 : k < t.length := by omega
            have hput : putT t j = t.set k (j : Int) := by unfold putT; rw [if_neg (by rw [hcj]; exact hkn), hcj]
            obtain ⟨gt, ct', e', hfr, _, _⟩ := own_posS hM1.own (by omega)
            obtain ⟨rfl, rfl⟩ : At = some ⟨gt, 0, none⟩ ∧ ct = ct' := by injection e' with e1 e2 e3; exact ⟨e1, e3⟩
            obtain ⟨ge, oe, e2, hcl⟩ := (Row.of_own hM1.own).int hlt3
            cases e2
            rw [Nat.zero_add] at hcl
            have HZ : Hid (t[k]? = some t[k]) := List.getElem?_eq_getElem hlt3
            generalize t[k] = z at *
            have hz : ((k : Int) == (t.length : Int)) = false := by simp; omega
            by_cases hzj : z = (j : Int)
            · have hsame : putT t j = t := put_none (by rw [hcj, HZ.out, hzj])
              have R := Lib.hid (HRT.out _ _ _ (hM1.low S hkK) (by have := HPa.out; rw [hsame] at this; exact this))
              have hz2 : (z == (j : Int)) = true := by simpa using hzj
              clear hM1 hput HRT HPa hsame HZ hfr e' hzj
              go_wp2_with fail
              go_roundw
              case rel => first | exact R.out | ((repeat apply Exists.intro); exact ⟨R.out, rfl⟩)
              case measure => simp [lenV] <;> omega
            · have hz2 : (z == (j : Int)) = false := by simpa using hzj
              have hfk := hfr k
              have HW : Hid (SwM St lo Bm f hi b w0.heap.size w0 i K t (putT t j) (.slice (some ⟨gt, 0, none⟩) t.length ct) (wc.setCell ⟨gt, k, none⟩ (.int .i64 (j : Int)))) := by
                refine hM1.step S ?_
                rw [hput]
                exact owj_set rfl hM1.own
              have hB3 : w0.heap.size ≤ (wc.setCell ⟨gt, k, none⟩ (.int .i64 (j : Int))).heap.size := HW.out.below.size
              have CB := Lib.hid (S.call j x HAs.out hlen (by omega) (by omega) HW.out.st (by rw [HCj.out]; exact hkK) HX.out HJb.out hB3)
              rw [HCj.out] at CB
              clear hM1 hput HZ hfr e' hzj hcj
              go_wp2_with fail
              refine (CB.out).mono ?_
              rintro e w4 ⟨⟨v4, rfl⟩, hs4, hb4, hk4⟩
              have R := Lib.hid (HRT.out _ _ _ (HW.out.called S hs4 hb4 hk4) HPa.out)
              clear hs4 hb4 hk4 CB HRT HW
              go_wp2_with fail
              go_roundw
              case rel => first | exact R.out | ((repeat apply Exists.intro); exact ⟨R.out, rfl⟩)
              case measure => simp [lenV] <;> omega
    · have hin : i = a.length := by rw [HN.out]; have := HN.out; omega
      subst hin
      have R := Lib.hid (sw_done hM)
      clear hM h1 wa S
      go_wp2_with fail
      go_ret
      exact R.out

end Go.Proofs.Ytmhnciljbdflcaa

namespace Go.Proofs.Ytmhnciljbdflcaa
open Go.RowKit

/-- v is a chain of these pairs, the last one first. -/
def ChV (w : World) : Value → List Pr → Prop
  | v, [] => v = .pointer none
  | v, p :: r => ∃ g nx, v = .pointer (some ⟨g, 0, none⟩) ∧ w.heap[g]? = some (.cells #[.int .i64 p.1, .int .i64 p.2, nx] 39 (0, 0)) ∧ ChV w nx r
theorem ChV.keep {w w' : World} (hk : ∀ (g : Nat) (cs : Array Value) (s : Nat × Nat), w.heap[g]? = some (.cells cs 39 s) → w'.heap[g]? = some (.cells cs 39 s)) : ∀ {r : List Pr} {v : Value}, ChV w v r → ChV w' v r
  | [], _, h => h
  | _ :: _, _, ⟨g, nx, h1, h2, h3⟩ => ⟨g, nx, h1, hk _ _ _ h2, ChV.keep hk h3⟩
/-- All is as it was, but a list of chains and the variable that holds it. -/
def ChK (w w' : World) : Prop := ∀ (g : Nat) (o : Obj), w.heap[g]? = some o → (∀ cs e s, o = .cells cs e s → e ≠ 33 ∧ e ≠ 35) → w'.heap[g]? = some o
theorem ChK.refl (w : World) : ChK w w := fun _ _ h _ => h
theorem ChK.trans {w w1 w2 : World} (h : ChK w w1) (h' : ChK w1 w2) : ChK w w2 := fun g o hh hn => h' g o (h g o hh hn) hn
theorem chk_alloc (w : World) (o : Obj) : ChK w (w.alloc o) := fun g o' hh _ => by
  rw [Below.heap_alloc _ _ _ (Array.getElem?_eq_some_iff.1 hh).1]
  exact hh
theorem chk_block {w w' : World} {b : Option Nat} (hg : w.grownBy w' b) (hb : ∀ k, b = some k → ∃ cs e s, w.heap[k]? = some (.cells cs e s) ∧ (e = 33 ∨ e = 35)) : ChK w w' := fun g o hh hn => by
  rw [hg.block g (Array.getElem?_eq_some_iff.1 hh).1 (fun e => ?_)]
  · exact hh
  · obtain ⟨cs, t, s, h1, h2⟩ := hb g e.symm
    rw [hh] at h1
    cases h1
    have := hn _ _ _ rfl
    rcases h2 with rfl | rfl
    · exact this.1 rfl
    · exact this.2 rfl
theorem row_type {w : World} {B n sz : Nat} {e : TypeId} {v : Value} {us : List Value} (h : w.ownsRow B e sz v n us) : ∀ k, v.ownBlock = some k → ∃ cs s, w.heap[k]? = some (.cells cs e s) := by
  intro k hk
  rcases h.2 with ⟨rfl, _⟩ | ⟨g, cap, cur, rfl, _, hh, _⟩
  · cases hk
  · obtain rfl : g = k := by simpa [Value.ownBlock] using hk
    exact ⟨_, _, hh⟩
theorem ChK.chain {w w' : World} (h : ChK w w') {v : Value} {r : List Pr} (hc : ChV w v r) : ChV w' v r := hc.keep fun g cs s hh => h g _ hh fun cs' e s' e' => by
  cases e'
  decide
theorem ChK.num {w w' : World} (h : ChK w w') (g : Nat) (o : Obj) (hh : w.heap[g]? = some o) (hn : NumO o) : w'.heap[g]? = some o := h g o hh fun cs e s e' => by
  rcases hn with ⟨es, c, rfl⟩ | ⟨cs', s', rfl⟩
  · cases e'
  · cases e'
    decide

/-- Run's state: the variable in block z holds a list of chains, one for each threshold and one of none. -/
def StR (a b : List Int) (B z : Nat) (i K : Nat) (t : List Int) (w : World) : Prop :=
  ∃ v us, Boxed w z 33 v ∧ B ≤ z ∧ w.ownsRow B 35 1 v (t.length + 1) us ∧ ∀ m, m ≤ t.length → ∃ u r, us[m]? = some u ∧ ChV w u r ∧ ChP a b i K t m r.reverse
theorem stR_next {a b : List Int} {B z i K : Nat} {t : List Int} {w : World} (h : StR a b B z i K t w) : StR a b B z (i + 1) t.length t w := by
  obtain ⟨v, us, h1, h2, h3, h4⟩ := h
  refine ⟨v, us, h1, h2, h3, fun m hm => ?_⟩
  obtain ⟨u, r, e, hc, hp⟩ := h4 m hm
  exact ⟨u, r, e, hc, hp.next hm⟩
theorem stR_low {a b : List Int} {B z i K k : Nat} {t : List Int} {w : World} (h : StR a b B z i K t w) (hk : k ≤ K) : StR a b B z i k t w := by
  obtain ⟨v, us, h1, h2, h3, h4⟩ := h
  refine ⟨v, us, h1, h2, h3, fun m hm => ?_⟩
  obtain ⟨u, r, e, hc, hp⟩ := h4 m hm
  exact ⟨u, r, e, hc, hp.low hk⟩
theorem own_keepT {w w' : World} {B n : Nat} {e : TypeId} {v : Value} {us : List Value} (h : w.ownsRow B e 1 v n us) (hk : ∀ (g : Nat) (cs : Array Value), w.heap[g]? = some (.cells cs e (0, 0)) → w'.heap[g]? = some (.cells cs e (0, 0))) : w'.ownsRow B e 1 v n us := by
  obtain ⟨h1, h2⟩ := h
  refine ⟨h1, ?_⟩
  rcases h2 with h2 | ⟨g, cap, cur, hv, hg, hh, r⟩
  · exact .inl h2
  · exact .inr ⟨g, cap, cur, hv, hg, hk _ _ hh, r⟩
theorem stR_keep {a b : List Int} {B z i K : Nat} {t : List Int} {w w' : World} (h : StR a b B z i K t w) (hk : ∀ (g : Nat) (o : Obj), w.heap[g]? = some o → Oth o → w'.heap[g]? = some o) : StR a b B z i K t w' := by
  obtain ⟨v, us, h1, h2, h3, h4⟩ := h
  refine ⟨v, us, hk _ _ h1 ⟨_, _, _, rfl, by decide⟩, h2, own_keepT h3 (fun g cs hh => hk g _ hh ⟨_, _, _, rfl, by decide⟩), fun m hm => ?_⟩
  obtain ⟨u, r, e, hc, hp⟩ := h4 m hm
  exact ⟨u, r, e, hc.keep (fun g cs s hh => hk g _ hh ⟨_, _, _, rfl, by decide⟩), hp⟩

/-- One chain more, or another one, in the list us'. -/
theorem stR_put {a b : List Int} {B z i K j q : Nat} {x : Int} {t : List Int} {w w' : World} {v' : Value} {us us' : List Value} {u : Value} {r : List Pr} (ht : Asc t) (hK : cntL t j ≤ K) (hxa : a[i]? = some x) (hxb : b[j]? = some x)
    (h4 : ∀ m, m ≤ t.length → ∃ u r, us[m]? = some u ∧ ChV w u r ∧ ChP a b i K t m r.reverse) (hu : ChV w u r) (hr : ChP a b i K t (cntL t j) r.reverse) (hk : ChK w w')
    (hz : B ≤ z) (hb : Boxed w' z 33 v') (hq : w'.heap[q]? = some (.cells #[.int .i64 (i : Int), .int .i64 (j : Int), u] 39 (0, 0)))
    (ho : w'.ownsRow B 35 1 v' ((putT t j).length + 1) us') (e1 : us'[cntL t j + 1]? = some (.pointer (some ⟨q, 0, none⟩))) (e2 : ∀ m, m ≤ t.length → m ≠ cntL t j + 1 → us'[m]? = us[m]?) : StR a b B z i (cntL t j) (putT t j) w' := by
  refine ⟨v', us', hb, hz, ho, fun m hm => ?_⟩
  by_cases e : m = cntL t j + 1
  · subst e
    refine ⟨_, ((i : Int), (j : Int)) :: r, e1, ⟨q, u, rfl, hq, hk.chain hu⟩, ?_⟩
    rw [List.reverse_cons]
    exact hr.put ht hK hxa hxb
  · have hm' : m ≤ t.length := by
      unfold putT at hm
      split at hm
      · rename_i g
        rw [List.length_append, List.length_singleton] at hm
        omega
      · rw [List.length_set] at hm
        exact hm
    obtain ⟨u', r', g1, g2, g3⟩ := h4 m hm'
    exact ⟨u', r', by rw [e2 m hm' e, g1], hk.chain g2, g3.keep hK hm' e⟩

end Go.Proofs.Ytmhnciljbdflcaa

namespace Go.Proofs.Ytmhnciljbdflcaa
open Go.RowKit

theorem Try.infoChain : (Try.prog.info? 35).map (fun i => (i.zero, i.size, i.bytes)) = some (some (.pointer none), 1, 8) := by kernel_rfl
theorem one_ptr (p : Option Addr) : ∀ u ∈ [Value.pointer p], u.oneCell' = true := by
  intro u hu
  rw [List.mem_singleton] at hu
  subst hu
  rfl
theorem chv_ptr {w : World} {v : Value} {r : List Pr} (h : ChV w v r) : ∃ p, v = .pointer p := by
  cases r with
  | nil => exact ⟨none, h⟩
  | cons p r =>
    obtain ⟨g, nx, e, _⟩ := h
    exact ⟨_, e⟩
theorem put_len (t : List Int) (j : Int) : (putT t j).length = if cntL t j = t.length then t.length + 1 else t.length := by
  unfold putT
  split
  · rw [List.length_append]
    rfl
  · rw [List.length_set]

/-- What it leaves. -/
def ChgMade (a b : List Int) (B z : Nat) (i k : Nat) (t : List Int) (w : World) (e : Ending) (w' : World) : Prop :=
  (∃ v, e = .returned v) ∧ StR a b B z i k t w' ∧ Below B w w' ∧ ∀ (g : Nat) (o : Obj), w.heap[g]? = some o → NumO o → w'.heap[g]? = some o

set_option maxRecDepth 100000 in
set_option maxHeartbeats 1600000 in
theorem changed_any (a b : List Int) (B z i K j : Nat) (x : Int) (t : List Int) (w : World) (ht : Asc t) (hlen : t.length ≤ 1048576) (hS : StR a b B z i K t w) (hK : cntL t j ≤ K) (hxa : a[i]? = some x) (hxb : b[j]? = some x) (hB : B ≤ w.heap.size) :
    Calls Try.prog 19 #[.int .i64 (i : Int), .int .i64 (j : Int), .int .i64 (cntL t j : Nat), .pointer (some ⟨z, 0, none⟩)] w (ChgMade a b B z i (cntL t j) (putT t j) w) := by
  obtain ⟨i0, hi0, hz0, hz1, hz2⟩ := info_parts Try.infoChain
  obtain ⟨v, us, hbx, hzB, hown, hch⟩ := hS
  have hkN := cnt_le t j
  obtain ⟨u, r, hu, hcu, hpu⟩ := hch _ hkN
  obtain ⟨A, rfl⟩ := chv_ptr hcu
  have hul : us.length = t.length + 1 := by simpa using hown.1
  have HP := Lib.hid (fun (w' : World) (v' : Value) (us' : List Value) => stR_put (B := B) (z := z) (w' := w') (v' := v') (us' := us') (q := w.heap.size) ht hK hxa hxb hch hcu hpu)
  obtain ⟨g, c, rfl, hfr, hgB, hgw⟩ := own_posS hown (by omega)
  have hr1 := Row.of_own hown
  obtain ⟨g1, o1, e1, hcells⟩ := hr1 (by intro e; rw [e] at hul; simp at hul)
  cases e1
  have hc0 := hcells _ _ hu
  rw [Nat.zero_add] at hc0
  have hzc := hbx.cell
  have hzw := hbx.lt
  have hz1' : ∀ o, (w.alloc o).cell? ⟨z, 0, none⟩ = some (.slice (some ⟨g, 0, none⟩) (t.length + 1) c) := fun o => (hbx.alloc o).cell
  have hPL := Lib.hid (put_len t j)
  generalize cntL t j = k at *
  have hN := Lib.hid (World.alloc_heap_new w (.cells #[.int .i64 (i : Int), .int .i64 (j : Int), .pointer A] 39))
  by_cases hkn : k = t.length
  · subst hkn
    have hla : (putT t j).length = t.length + 1 := by rw [hPL.out, if_pos rfl]
    have HF : Hid (∀ (v' : Value) (w3 : World), Boxed (w3.setCell ⟨z, 0, none⟩ v') z 33 v' → (w3.setCell ⟨z, 0, none⟩ v').ownsRow B 35 1 v' (t.length + 1 + 1) (us ++ [.pointer (some ⟨w.heap.size, 0, none⟩)]) → ChK (w.alloc (.cells #[.int .i64 (i : Int), .int .i64 (j : Int), .pointer A] 39)) (w3.setCell ⟨z, 0, none⟩ v') → Below B (w.alloc (.cells #[.int .i64 (i : Int), .int .i64 (j : Int), .pointer A] 39)) (w3.setCell ⟨z, 0, none⟩ v') → ∀ (e : Ending) (v'' : Value), e = .returned v'' → ChgMade a b B z i t.length (putT t j) w e (w3.setCell ⟨z, 0, none⟩ v')) := fun v' w3 q1 q2 q3 q4 e v'' he => by
      have hk := (chk_alloc w (.cells #[.int .i64 (i : Int), .int .i64 (j : Int), .pointer A] 39)).trans q3
      refine ⟨⟨_, he⟩, HP.out _ _ _ hk hzB q1 (q3 _ _ hN.out (fun cs e s e' => by cases e'; decide)) (by rw [hla]; exact q2) ?_ ?_, (((Below.refl _ _).alloc hB _)).trans q4, hk.num⟩
      · rw [List.getElem?_append_right (by omega), hul, Nat.sub_self]
        rfl
      · intro m hm _
        rw [List.getElem?_append_left (by omega)]
    have HW : Hid (∀ (v' : Value) (w3 : World), w3.ownsRow B 35 1 v' (t.length + 1 + 1) (us ++ [.pointer (some ⟨w.heap.size, 0, none⟩)]) → ((w.alloc (.cells #[.int .i64 (i : Int), .int .i64 (j : Int), .pointer A] 39)).alloc (.cells #[.pointer (some ⟨w.heap.size, 0, none⟩)] 35)).grownBy w3 (Value.slice (some ⟨g, 0, none⟩) (t.length + 1) c).ownBlock →
        Boxed w3 z 33 (.slice (some ⟨g, 0, none⟩) (t.length + 1) c) ∧ ∀ (e : Ending) (v'' : Value), e = .returned v'' → ChgMade a b B z i t.length (putT t j) w e (w3.setCell ⟨z, 0, none⟩ v')) := fun v' w3 q1 q2 => by
      have ha := hown.alloc (.cells #[.int .i64 (i : Int), .int .i64 (j : Int), .pointer A] 39)
      obtain ⟨s1, s2, s3, _, s5⟩ := Boxed.appended (hbx.alloc (.cells #[.int .i64 (i : Int), .int .i64 (j : Int), .pointer A] 39)) (by decide) ha (by simp; omega) hzB q1 q2
      refine ⟨s1, HF.out v' w3 s2 s3 ?_ s5⟩
      refine ((chk_alloc _ _).trans (chk_block q2 fun k ek => ?_)).trans (chk_block (grownBy_setCell' w3 z v') fun k ek => ?_)
      · obtain ⟨cs, s, hh⟩ := row_type (ha.alloc _) k ek
        exact ⟨cs, _, s, hh, .inr rfl⟩
      · cases ek
        exact ⟨_, _, _, s1, .inl rfl⟩
    have hown1 := (hown.alloc (.cells #[.int .i64 (i : Int), .int .i64 (j : Int), .pointer A] 39)).alloc (.cells #[.pointer (some ⟨w.heap.size, 0, none⟩)] 35)
    clear HF HP hN hPL hown hch hcu hpu hbx hr1 hcells hxa hxb ht hla
    go_enter Try.func19, Try.ntmps19
    go_wp2_with (at_builtin; refine wpList_append_own_at _ rfl (.tmp 22) (.tmp 24) 33 rfl B 35 i0 (.pointer none) 1 8 Try.underlying33 hi0 hz0 hz1 hz2 rfl (by decide) _ _ _ rfl hown1 ⟨w.heap.size + 1, 0, none⟩ 1 1 [_] rfl rfl (by have := cell_one_new (w.alloc (.cells #[.int .i64 (i : Int), .int .i64 (j : Int), .pointer A] 39)) (.pointer (some ⟨w.heap.size, 0, none⟩)) 35; simpa using this) (one_ptr _) (by unfold maxLen; omega) (by omega) (by simp; omega) ?_)
    intro v' w3 hown' hg' _ _
    obtain ⟨b1, HE0⟩ := HW.out v' w3 hown' hg'
    obtain ⟨g', c', rfl⟩ := ownsRow_succ hown'
    have HE := Lib.hid HE0
    have b2 := b1.cell
    have b3 := b1.frozen
    clear HW HE0 b1 hown' hg' hown1
    go_wp2_with fail
    go_end0
    exact HE.out _ _ rfl
  · have hlt : k < t.length := by omega
    have hla : (putT t j).length = t.length := by rw [hPL.out, if_neg hkn]
    have ha := hown.alloc (.cells #[.int .i64 (i : Int), .int .i64 (j : Int), .pointer A] 39)
    have hba := hbx.alloc (.cells #[.int .i64 (i : Int), .int .i64 (j : Int), .pointer A] 39)
    have hgr : (w.alloc (.cells #[.int .i64 (i : Int), .int .i64 (j : Int), .pointer A] 39)).grownBy ((w.alloc (.cells #[.int .i64 (i : Int), .int .i64 (j : Int), .pointer A] 39)).setCell ⟨g, k + 1, none⟩ (.pointer (some ⟨w.heap.size, 0, none⟩))) (some g) := grown_setS (World.grownBy.refl _ _) (.inl rfl)
    have hk : ChK (w.alloc (.cells #[.int .i64 (i : Int), .int .i64 (j : Int), .pointer A] 39)) ((w.alloc (.cells #[.int .i64 (i : Int), .int .i64 (j : Int), .pointer A] 39)).setCell ⟨g, k + 1, none⟩ (.pointer (some ⟨w.heap.size, 0, none⟩))) := chk_block hgr fun q eq => by
      obtain ⟨cs, s, hh⟩ := row_type ha q eq
      exact ⟨cs, _, s, hh, .inr rfl⟩
    have hk2 := (chk_alloc w (.cells #[.int .i64 (i : Int), .int .i64 (j : Int), .pointer A] 39)).trans hk
    have HF : Hid (∀ (e : Ending) (v'' : Value), e = .returned v'' → ChgMade a b B z i k (putT t j) w e ((w.alloc (.cells #[.int .i64 (i : Int), .int .i64 (j : Int), .pointer A] 39)).setCell ⟨g, k + 1, none⟩ (.pointer (some ⟨w.heap.size, 0, none⟩)))) := fun e v'' he => by
      refine ⟨⟨_, he⟩, HP.out _ _ (us.set (k + 1) (.pointer (some ⟨w.heap.size, 0, none⟩))) hk2 hzB (hba.kept hgr (hba.not_row (by decide) ha)) (hk _ _ hN.out (fun cs e s e' => by cases e'; decide)) (by rw [hla]; exact own_setS ha _ _) ?_ ?_, ((Below.refl _ _).alloc hB _).setCell hgB _, hk2.num⟩
      · rw [List.getElem?_set_self (by omega)]
      · intro m _ hne
        rw [List.getElem?_set_ne (by omega)]
    obtain ⟨g2, c2, e2, hfr2, _, _⟩ := own_posS ha (by omega)
    obtain rfl : g = g2 := by injection e2 with e2; injection e2 with e2; injection e2
    have hf2 := hfr2 (k + 1)
    have hc9 := hcells (k + 1) (us[k + 1]'(by omega)) (List.getElem?_eq_getElem _)
    rw [Nat.zero_add] at hc9
    generalize us[k + 1] = y9 at *
    have hz2 : ((k : Int) + 1 == (t.length : Int) + 1) = false := by simp; omega
    clear HP hN hPL hown hch hcu hpu hbx hr1 hcells hxa hxb ht hla ha hba hgr hk hk2 e2 hfr2 hfr
    go_enter Try.func19, Try.ntmps19
    go_wp2_with fail
    go_end0
    rw [← World.setCell_alloc_past _ _ _ _ hgw]
    exact HF.out _ _ rfl

end Go.Proofs.Ytmhnciljbdflcaa

namespace Go.Proofs.Ytmhnciljbdflcaa
open Go.RowKit Go.Shelf
attribute [local go_sem] Oper.semAt_some

/-- The row and what is left of the chain, round by round. -/
def lsStep (st : List Pr × List Pr) (i : Nat) : List Pr × List Pr := (st.1.set i (st.2.headD (0, 0)), st.2.tail)
def lsOf (r : List Pr) (is : List Nat) : List Pr × List Pr := is.foldl lsStep (List.replicate r.length (0, 0), r)
theorem lsOf_snoc (r : List Pr) (is : List Nat) (i : Nat) : lsOf r (is ++ [i]) = lsStep (lsOf r is) i := by
  unfold lsOf
  rw [List.foldl_append, List.foldl_cons, List.foldl_nil]
theorem lsOf_len (r : List Pr) (is : List Nat) : (lsOf r is).1.length = r.length ∧ (lsOf r is).2 = r.drop is.length := by
  unfold lsOf
  have key : ∀ (is : List Nat) (L R : List Pr), (is.foldl lsStep (L, R)).1.length = L.length ∧ (is.foldl lsStep (L, R)).2 = R.drop is.length := by
    intro is
    induction is with
    | nil => intro L R; exact ⟨rfl, rfl⟩
    | cons i is ih =>
      intro L R
      obtain ⟨h1, h2⟩ := ih (L.set i (R.headD (0, 0))) R.tail
      refine ⟨h1.trans (List.length_set ..), h2.trans ?_⟩
      rw [List.length_cons, List.drop_tail]
  obtain ⟨h1, h2⟩ := key is (List.replicate r.length (0, 0)) r
  exact ⟨h1.trans (by simp), h2⟩
theorem ls_upto (r : List Pr) : ∀ k, k ≤ r.length → (lsOf r (downs r.length k)).1 = List.replicate (r.length - k) (0, 0) ++ (r.take k).reverse := by
  intro k
  induction k with
  | zero => intro _; simp [downs, lsOf]
  | succ k ih =>
    intro hk
    have ih := ih (by omega)
    obtain ⟨j, hj⟩ : ∃ j, j + k + 1 = r.length := ⟨r.length - k - 1, by omega⟩
    have hl := (lsOf_len r (downs r.length k)).2
    have hdl : (downs r.length k).length = k := by simp [downs]
    rw [downs_succ hj, lsOf_snoc]
    unfold lsStep
    dsimp only
    rw [ih, hl, hdl, show r.length - k = j + 1 by omega, show r.length - (k + 1) = j by omega, List.take_succ_eq_append_getElem (by omega), List.reverse_append, List.drop_eq_getElem_cons (by omega)]
    rw [List.set_append_left _ _ (by simp), List.replicate_succ', List.set_append_right _ _ (by simp)]
    simp
    rw [List.getElem?_eq_getElem (by omega)]
    rfl
theorem ls_all {r : List Pr} {xs : List (AtP r.length)} (h : DownS r.length xs) : (lsOf r (plP xs)).1 = r.reverse := by
  rw [h, ls_upto r _ (Nat.le_refl _), Nat.sub_self, List.take_length]
  rfl
theorem pv_setAt (L : List Pr) {i : Nat} (hi : i < L.length) (x y : Int) : ((pv L).set (i * 2) (.int .i64 x)).set (i * 2 + 1) (.int .i64 y) = pv (L.set i (x, y)) := by
  have e : L = L.take i ++ L[i] :: L.drop (i + 1) := by rw [← List.drop_eq_getElem_cons hi, List.take_append_drop]
  have hl : (L.take i).length = i := by rw [List.length_take]; omega
  have h := pv_set2 (L.take i) (L.drop (i + 1)) L[i] x y
  rw [hl, ← e] at h
  rw [h, List.set_eq_take_append_cons_drop, if_pos hi]
theorem okRow_own {w : World} {B g n c : Nat} {L : List Pr} (h : w.ownsRow B 37 2 (.slice (some ⟨g, 0, none⟩) n c) n (pv L)) (hl : L.length = n) : OkRow g n w := fun i hi => by
  obtain ⟨g', o, e, h1, h2⟩ := (own_rowS h).pair (k := i) (by omega)
  cases e
  rw [Nat.zero_add] at h1 h2
  exact ⟨_, _, h1, h2⟩
theorem chv_grown {w w' : World} {g : Nat} (hg : w.grownBy w' (some g)) {o : Obj} (ho : w.heap[g]? = some o) (hn : ∀ cs s, o ≠ .cells cs 39 s) {v : Value} {r : List Pr} (h : ChV w v r) : ChV w' v r := h.keep fun q cs s hh => by
  rw [hg.block q (Array.getElem?_eq_some_iff.1 hh).1 (fun e => by
    injection e with e
    subst e
    rw [ho] at hh
    injection hh with hh
    exact hn _ _ hh)]
  exact hh

/-- What holds between two rounds. -/
def LsI (r : List Pr) (n s : Nat) (w : World) (pre : List (AtP n)) (W : World) : Prop :=
  ∃ v, Boxed W s 35 v ∧ ChV W v (lsOf r (plP pre)).2 ∧ Boxed W (s + 1 + 1) 22 (.slice (some ⟨s + 1, 0, none⟩) n n) ∧ Boxed W (s + 1 + 1 + 1) 22 (.slice (some ⟨s + 1, 0, none⟩) n n) ∧
    W.ownsRow s 37 2 (.slice (some ⟨s + 1, 0, none⟩) n n) n (pv (lsOf r (plP pre)).1) ∧ Below s w W
theorem lsI_own {r : List Pr} {n s : Nat} {w : World} {B0 : Nat} (hB : s ≤ B0) (hs : s = w.heap.size) : OwnFrom B0 (LsI r n s w) := by
  rintro pre W W' row ⟨v, b1, c1, b2, b3, h1, h2⟩ hg hr
  have hr' : ∀ r, row = some r → ∃ o : Obj, W.heap[r]? = some o ∧ o.isCells = false := fun r e => (hr r e).2
  refine ⟨v, boxed_keptO b1 hg hr', ?_, boxed_keptO b2 hg hr', boxed_keptO b3 hg hr', ?_, h2.grown hg (by rw [hs]; have := h2.size; omega) (fun r e => Nat.le_trans hB (hr r e).1)⟩
  · cases row with
    | none => exact c1.keep fun q cs s hh => by rw [hg.block q (Array.getElem?_eq_some_iff.1 hh).1 (by simp)]; exact hh
    | some g =>
      obtain ⟨o, ho, hc⟩ := hr' g rfl
      exact chv_grown hg ho (fun cs s e => by subst e; cases hc) c1
  · refine h1.kept hg ?_
    refine .inr fun e' => ?_
    obtain ⟨o, ho, hc⟩ := hr' (s + 1) (by simpa [Value.ownBlock] using e'.symm)
    rcases h1.2 with ⟨e, _⟩ | ⟨g, cap, cur, e, _, hgb, _⟩
    · cases e
    · obtain rfl : s + 1 = g := by injection e with e; injection e with e; injection e
      rw [hgb] at ho
      cases ho
      cases hc
/-- What a round reads. -/
def LsS (s n q : Nat) (p1 p2 : Int) (W : World) : Prop :=
  W.cell? ⟨s, 0, none⟩ = some (.pointer (some ⟨q, 0, none⟩)) ∧ W.cell? ⟨s + 1 + 1, 0, none⟩ = some (.slice (some ⟨s + 1, 0, none⟩) n n) ∧ W.cell? ⟨q, 0, none⟩ = some (.int .i64 p1) ∧ W.cell? ⟨q, 1, none⟩ = some (.int .i64 p2)
/-- What a round leaves. -/
def LsP (r : List Pr) (n s B : Nat) (w : World) (pre : List (AtP n)) (W W' : World) : Prop := KeepsFrom B W W' ∧ KpP s (s + 1 + 1 + 1) (s + 1) n W W' ∧ LsI r n s w pre W'
theorem ls_round {r : List Pr} {n s B i q : Nat} {w W : World} {pre : List (AtP n)} (hn : r.length = n) (x : AtP n) (hi : x.1.1 = i) {p1 p2 : Int} {nx : Value} {rest : List Pr} (h2 : (lsOf r (plP pre)).2 = (p1, p2) :: rest)
    (b1 : Boxed W s 35 (.pointer (some ⟨q, 0, none⟩))) (c1 : ChV W nx rest) (b2 : Boxed W (s + 1 + 1) 22 (.slice (some ⟨s + 1, 0, none⟩) n n)) (b3 : Boxed W (s + 1 + 1 + 1) 22 (.slice (some ⟨s + 1, 0, none⟩) n n))
    (h1 : W.ownsRow s 37 2 (.slice (some ⟨s + 1, 0, none⟩) n n) n (pv (lsOf r (plP pre)).1)) (hb : Below s w W) :
    LsP r n s B w (pre ++ [x]) W ((((W.setCell ⟨s + 1, i * 2, none⟩ (.int .i64 p1)).setCell ⟨s + 1, i * 2 + 1, none⟩ (.int .i64 p2)).drew).setCell ⟨s, 0, none⟩ nx) := by
  have hll := (lsOf_len r (plP pre)).1
  have hin : i < n := by rw [← hi]; exact x.2
  have g1 : W.grownBy (((W.setCell ⟨s + 1, i * 2, none⟩ (.int .i64 p1)).setCell ⟨s + 1, i * 2 + 1, none⟩ (.int .i64 p2)).drew) (some (s + 1)) := grown_drew (grown_setS (grown_setS (World.grownBy.refl _ _) (.inl rfl)) (.inl rfl))
  have hblk : ∃ cs t, W.heap[s + 1]? = some (.cells cs 37 t) := by
    rcases h1.2 with ⟨e, _⟩ | ⟨g, cap, cur, e, _, hgb, _⟩
    · cases e
    · obtain rfl : s + 1 = g := by injection e with e; injection e with e; injection e
      exact ⟨_, _, hgb⟩
  obtain ⟨cs, t, hblk⟩ := hblk
  have d1 := b1.kept g1 (fun e => by injection e; omega)
  have d2 := b2.kept g1 (fun e => by injection e; omega)
  have d3 := b3.kept g1 (fun e => by injection e; omega)
  have dc := chv_grown g1 hblk (fun cs s e => by cases e) c1
  have g2 := grownBy_setCell' (((W.setCell ⟨s + 1, i * 2, none⟩ (.int .i64 p1)).setCell ⟨s + 1, i * 2 + 1, none⟩ (.int .i64 p2)).drew) s nx
  have o1 : (((W.setCell ⟨s + 1, i * 2, none⟩ (.int .i64 p1)).setCell ⟨s + 1, i * 2 + 1, none⟩ (.int .i64 p2)).drew).ownsRow s 37 2 (.slice (some ⟨s + 1, 0, none⟩) n n) n (pv ((lsOf r (plP pre)).1.set i (p1, p2))) := by
    have := own_setS (own_setS h1 (i * 2) (.int .i64 p1)) (i * 2 + 1) (.int .i64 p2)
    rw [pv_setAt _ (by rw [hll, hn]; exact hin)] at this
    exact this.drew
  have o2 := o1.kept g2 (.inr (fun e => by simp [Value.ownBlock] at e))
  have e1 : (lsOf r (plP (pre ++ [x]))) = ((lsOf r (plP pre)).1.set i (p1, p2), rest) := by
    have : plP (pre ++ [x]) = plP pre ++ [i] := by unfold plP; rw [List.map_append]; simp [hi]
    rw [this, lsOf_snoc]
    unfold lsStep
    rw [h2]
    rfl
  have hw := hb.size
  have k1 : Below s W (((W.setCell ⟨s + 1, i * 2, none⟩ (.int .i64 p1)).setCell ⟨s + 1, i * 2 + 1, none⟩ (.int .i64 p2)).drew) := (((Below.refl _ _).setCell (p := ⟨s + 1, i * 2, none⟩) (by show s ≤ s + 1; omega) _).setCell (p := ⟨s + 1, i * 2 + 1, none⟩) (by show s ≤ s + 1; omega) _).drew
  have k2 := k1.setCell (p := ⟨s, 0, none⟩) (Nat.le_refl _) nx
  refine ⟨?_, ⟨k2, ?_, fun _ => okRow_own o2 (by rw [List.length_set, hll, hn])⟩, nx, d1.set nx, ?_, d2.other (by omega) _, d3.other (by omega) _, ?_, hb.trans k2⟩
  · have q1 : KeepsFrom B W ((W.setCell ⟨s + 1, i * 2, none⟩ (.int .i64 p1)).setCell ⟨s + 1, i * 2 + 1, none⟩ (.int .i64 p2)) := ((KeepsOthers.setCell _ _ _).trans (KeepsOthers.setCell _ _ _)).from _
    have q2 : KeepsFrom B W (((W.setCell ⟨s + 1, i * 2, none⟩ (.int .i64 p1)).setCell ⟨s + 1, i * 2 + 1, none⟩ (.int .i64 p2)).drew) := ⟨q1.size, q1.same⟩
    exact q2.trans ((KeepsOthers.setCell _ _ _).from _)
  · exact (d3.other (by omega) nx).trans b3.symm
  · rw [e1]
    exact chv_grown g2 d1 (fun cs s e => by cases e) dc
  · rw [e1]
    exact o2

theorem made_pairsB (n : Nat) : (madeCells #[Value.int .i64 0, .int .i64 0] (n * 2)).toList = pv (List.replicate n (0, 0)) := made_pairs n
theorem ls_make (n : Nat) (hn : n ≤ 1048576) (w : World) : (Instr.makeSlice 22 (.int .i64 (n : Int)) (.int .i64 (n : Int))).run Try.prog w = .ok (.slice (some ⟨w.heap.size, 0, none⟩) n n) (w.alloc (.cells (madeCells #[.int .i64 0, .int .i64 0] (n * 2)) 37)) := by
  obtain ⟨i0, hi, hz0, hz1, hz2⟩ := info_parts Try.infoPair
  have hr := run_make (P := Try.prog) w 22 37 i0 _ Try.underlying22 hi hz0 .i64 .i64 (n : Int) (n : Int) (by omega) (Int.le_refl _) (by rw [hz2]; omega) (by omega)
  rw [Int.toNat_natCast, hz1] at hr
  exact hr
theorem ls_row (w : World) (n : Nat) (hn : n ≤ 1048576) {B : Nat} (hB : B ≤ w.heap.size) : (w.alloc (.cells (madeCells #[.int .i64 0, .int .i64 0] (n * 2)) 37)).ownsRow B 37 2 (.slice (some ⟨w.heap.size, 0, none⟩) n n) n (pv (List.replicate n (0, 0))) := by
  refine ⟨by rw [pv_length]; simp, .inr ⟨w.heap.size, n, _, rfl, hB, World.alloc_heap_new w _, Nat.le_refl _, by unfold maxLen; omega, size_madeCells _ _, ?_⟩⟩
  rw [made_pairsB, List.take_of_length_le (by rw [pv_length]; simp)]

set_option maxRecDepth 100000 in
set_option maxHeartbeats 3200000 in
theorem list_any (v : Value) (r : List Pr) (n : Nat) (w : World) (hn : r.length = n) (hb : n ≤ 1048576) (hc : ChV w v r) :
    Calls Try.prog 20 #[v, .int .i64 (n : Int)] w (MadeP r.reverse w) := by
  obtain ⟨A, rfl⟩ := chv_ptr hc
  have HN := Lib.hid hn
  clear hn
  refine (callsIn_wide (n := 3)).1 ?_
  refine callsIn_of_wp_marks Try.func20 rfl trivial ?_ rfl
  simp only [Try.ntmps20, List.size_toArray, List.length_cons, List.length_nil, Nat.reduceAdd, Nat.reduceSub, Array.replicate_succ, Array.replicate_zero, List.push_toArray, List.append_toArray, List.nil_append, List.cons_append]
  have hmk := ls_make n hb
  gi_wp2_with (refine ⟨trivial, ?_⟩; gi_at_call 26; refine (down_in _ _ _ _ _).mono ?_; rintro e w' ⟨rfl, rfl⟩)
  have hs4 : ((((w.alloc (Obj.cells #[Value.pointer A] 35)).alloc (Obj.cells (madeCells #[Value.int IntKind.i64 0, Value.int IntKind.i64 0] (n * 2)) 37)).alloc (Obj.cells #[Value.slice (some { block := w.heap.size + 1, off := 0 }) n n] 22)).alloc (Obj.cells #[Value.slice (some { block := w.heap.size + 1, off := 0 }) n n] 22)).heap.size = w.heap.size + 1 + 1 + 1 + 1 := by simp
  have HI : LsI r n w.heap.size w [] ((((w.alloc (Obj.cells #[Value.pointer A] 35)).alloc (Obj.cells (madeCells #[Value.int IntKind.i64 0, Value.int IntKind.i64 0] (n * 2)) 37)).alloc (Obj.cells #[Value.slice (some { block := w.heap.size + 1, off := 0 }) n n] 22)).alloc (Obj.cells #[Value.slice (some { block := w.heap.size + 1, off := 0 }) n n] 22)) := by
    have r1 := ls_row (w.alloc (Obj.cells #[Value.pointer A] 35)) n hb (B := w.heap.size) (by simp)
    have x1 := Boxed.new ((w.alloc (Obj.cells #[Value.pointer A] 35)).alloc (Obj.cells (madeCells #[Value.int IntKind.i64 0, Value.int IntKind.i64 0] (n * 2)) 37)) 22 (Value.slice (some { block := w.heap.size + 1, off := 0 }) n n)
    have x2 := Boxed.new (((w.alloc (Obj.cells #[Value.pointer A] 35)).alloc (Obj.cells (madeCells #[Value.int IntKind.i64 0, Value.int IntKind.i64 0] (n * 2)) 37)).alloc (Obj.cells #[Value.slice (some { block := w.heap.size + 1, off := 0 }) n n] 22)) 22 (Value.slice (some { block := w.heap.size + 1, off := 0 }) n n)
    simp only [World.size_alloc] at r1 x1 x2
    have hbl : Below w.heap.size w ((((w.alloc (Obj.cells #[Value.pointer A] 35)).alloc (Obj.cells (madeCells #[Value.int IntKind.i64 0, Value.int IntKind.i64 0] (n * 2)) 37)).alloc (Obj.cells #[Value.slice (some { block := w.heap.size + 1, off := 0 }) n n] 22)).alloc (Obj.cells #[Value.slice (some { block := w.heap.size + 1, off := 0 }) n n] 22)) :=
      ((((Below.refl _ w).alloc (Nat.le_refl _) _).alloc (by simp) _).alloc (by simp; omega) _).alloc (by simp; omega) _
    refine ⟨_, (((Boxed.new w _ _).alloc _).alloc _).alloc _, ?_, x1.alloc _, x2, ?_, hbl⟩
    · exact hc.keep fun g cs s hh => by
        rw [hbl.block g (Array.getElem?_eq_some_iff.1 hh).1]
        exact hh
    · have e : (lsOf r (plP ([] : List (AtP n)))).1 = List.replicate n (0, 0) := by
        rw [← HN.out]
        rfl
      rw [e]
      exact (r1.alloc _).alloc _
  clear hmk hc
  generalize ((((w.alloc (Obj.cells #[Value.pointer A] 35)).alloc (Obj.cells (madeCells #[Value.int IntKind.i64 0, Value.int IntKind.i64 0] (n * 2)) 37)).alloc (Obj.cells #[Value.slice (some { block := w.heap.size + 1, off := 0 }) n n] 22)).alloc (Obj.cells #[Value.slice (some { block := w.heap.size + 1, off := 0 }) n n] 22)) = wl at *
  obtain ⟨s, hs⟩ : ∃ s, w.heap.size = s := ⟨_, rfl⟩
  rw [hs] at HI hs4 ⊢
  have hok : OkRow (s + 1) n wl := by
    obtain ⟨_, _, _, _, _, h1, _⟩ := HI
    exact okRow_own h1 ((lsOf_len r _).1.trans HN.out)
  have bN : Boxed wl (s + 1 + 1 + 1) 22 (.slice (some ⟨s + 1, 0, none⟩) n n) := by
    obtain ⟨_, _, _, _, h1, _⟩ := HI
    exact h1
  refine wpIn_rangeFunc_ownG rfl (by omega) (gf := 29) (lb := #[.pointer (some ⟨s + 1 + 1 + 1, 0, none⟩)]) rfl trivial (enters_of Try.func29 (by kernel_rfl) rfl)
    (down_stops _ (by omega) (s + 1 + 1 + 1) (s + 1) n n s wl wl hb (by omega) (Below.refl _ _) hok bN) kpP_t (kpP_b (by omega) (by omega) (by omega)) (Below.refl _ _) (fun _ => rfl)
    (LsI r n s w) (fun _ _ _ => False) (lsI_own (by omega) hs.symm) (fun _ _ _ _ _ hs _ _ => hs) HI
    (fun p => { tmps := #[.pointer A, .int .i64 (n : Int), .pointer (some ⟨s, 0, none⟩), undef, .slice none 0 0, .pointer (some ⟨s + 1 + 1, 0, none⟩), .int .i64 (p.1.1 : Int), .int .i64 (n : Int), .slice (some ⟨s + 1, 0, none⟩) n n, .slice (some ⟨s + 1, 0, none⟩) n n, .func (.func 29) #[] #[.pointer (some ⟨s + 1 + 1 + 1, 0, none⟩)], .int .i64 (p.1.1 : Int), .agg #[.int .i64 p.1.2.1, .int .i64 p.1.2.2], undef, undef, undef, undef, undef, undef, undef, undef, undef, undef, undef, undef], defers := [] }) ?assign ?body ?done ?stop
  case assign =>
    intro l p W K hK
    simp only [encP]
    gi_wp2
    exact hK
  case body =>
    rintro l pre x W ⟨v, b1, c1, b2, b3, h1, h2⟩ hl
    obtain ⟨i, hi⟩ : ∃ i, x.1.1 = i := ⟨_, rfl⟩
    have hin : i < n := by rw [← hi]; exact x.2
    have hlen := (lsOf_len r (plP pre)).2
    obtain ⟨p, rest, hst⟩ : ∃ p rest, (lsOf r (plP pre)).2 = p :: rest := by
      rw [hlen, show (plP pre).length = pre.length by simp [plP]]
      exact ⟨_, _, List.drop_eq_getElem_cons (by rw [HN.out]; exact hl)⟩
    obtain ⟨p1, p2⟩ := p
    rw [hst] at c1
    obtain ⟨q, nx, rfl, hq, c2⟩ := c1
    obtain ⟨nA, rfl⟩ := chv_ptr c2
    have R := Lib.hid (ls_round (B := wl.heap.size) HN.out x hi hst b1 c2 b2 b3 h1 h2)
    have hok1 := okRow_own h1 ((lsOf_len r _).1.trans HN.out)
    obtain ⟨y1, y2, t1, t2⟩ := hok1 i hin
    obtain ⟨ge, ce, e', hfr, _, _⟩ := own_posS h1 (by omega)
    cases e'
    have t3 := hfr (i * 2)
    have t4 := hfr (i * 2 + 1)
    have cq0 : W.cell? ⟨q, 0, none⟩ = some (.int .i64 p1) := by simp [World.cell?, hq]
    have cq1 : W.cell? ⟨q, 1, none⟩ = some (.int .i64 p2) := by simp [World.cell?, hq]
    have cq2 : W.cell? ⟨q, 2, none⟩ = some (.pointer nA) := by simp [World.cell?, hq]
    have hqne : q ≠ s + 1 := by
      intro e
      subst e
      rcases h1.2 with ⟨e, _⟩ | ⟨g, cap, cur, e, _, hgb, _⟩
      · cases e
      · obtain rfl : s + 1 = g := by injection e with e; injection e with e; injection e
        rw [hgb] at hq
        cases hq
    have s1 := b1.cell
    have s1f := b1.frozen
    have s2 := b2.cell
    have HS : Hid (LsS s n q p1 p2 W) := ⟨s1, s2, cq0, cq1⟩
    have hmx : Try.prog.follows .mixedOrders = true := by kernel_rfl
    have u1 : (((W.setCell ⟨s + 1, i * 2, none⟩ (.int .i64 p1)).setCell ⟨s + 1, i * 2 + 1, none⟩ (.int .i64 p2)).drew).cell? ⟨s, 0, none⟩ = some (.pointer (some ⟨q, 0, none⟩)) := cell_set_other (cell_set_other s1 (by show s ≠ s + 1; omega)) (by show s ≠ s + 1; omega)
    have u2 : (((W.setCell ⟨s + 1, i * 2, none⟩ (.int .i64 p1)).setCell ⟨s + 1, i * 2 + 1, none⟩ (.int .i64 p2)).drew).cell? ⟨q, 2, none⟩ = some (.pointer nA) := cell_set_other (cell_set_other cq2 hqne) hqne
    have HT : Hid (LsS s n q p1 p2 ((W.setCell ⟨s + 1, i * 2, none⟩ (.int .i64 p1)).setCell ⟨s + 1, i * 2 + 1, none⟩ (.int .i64 p2))) :=
      ⟨cell_set_other (cell_set_other s1 (by show s ≠ s + 1; omega)) (by show s ≠ s + 1; omega), cell_set_other (cell_set_other s2 (by show s + 1 + 1 ≠ s + 1; omega)) (by show s + 1 + 1 ≠ s + 1; omega), cell_set_other (cell_set_other cq0 hqne) hqne, cell_set_other (cell_set_other cq1 hqne) hqne⟩
    rw [hi]
    clear b1 b2 b3 h1 h2 hq c2 hst hlen HI hok bN hfr
    gi_wp2
    refine region_held (LsS s n q p1 p2) (by kernel_rfl) (fun ⟨_, _, h⟩ => h) hmx ?_
    refine wpAnyH_take (i := 0) (v := ?v1) rfl (by kernel_rfl) (by kernel_rfl) (by kernel_rfl) (fun _ _ _ h => False.elim h) (.inl ⟨by rfl, ?y1⟩) HS.out ?_
    case y1 =>
      rintro w' ⟨s1, s2, s3, s4⟩
      go_simp
      try rw [if_pos (by omega)]
      try simp only [Int.toNat_natCast]
      first | done | with_reducible rfl
    refine wpAnyH_take (i := 1) (v := ?v2) rfl (by kernel_rfl) (by kernel_rfl) (by kernel_rfl) (fun _ _ _ h => False.elim h) (.inl ⟨by rfl, ?y2⟩) HS.out ?_
    case y2 =>
      rintro w' ⟨s1, s2, s3, s4⟩
      go_simp
      try rw [if_pos (by omega)]
      try simp only [Int.toNat_natCast]
      first | done | with_reducible rfl
    refine wpAnyH_take (i := 2) (v := ?v3) rfl (by kernel_rfl) (by kernel_rfl) (by kernel_rfl) (fun _ _ _ h => False.elim h) (.inl ⟨by rfl, ?y3⟩) HS.out ?_
    case y3 =>
      rintro w' ⟨s1, s2, s3, s4⟩
      go_simp
      try rw [if_pos (by omega)]
      try simp only [Int.toNat_natCast]
      first | done | with_reducible rfl
    refine wpAnyH_take (i := 3) (v := ?v4) rfl (by kernel_rfl) (by kernel_rfl) (by kernel_rfl) (fun _ _ _ h => False.elim h) (.inl ⟨by rfl, ?y4⟩) HS.out ?_
    case y4 =>
      rintro w' ⟨s1, s2, s3, s4⟩
      go_simp
      try rw [if_pos (by omega)]
      try simp only [Int.toNat_natCast]
      first | done | with_reducible rfl
    refine wpAnyH_take (i := 4) (v := ?v5) rfl (by kernel_rfl) (by kernel_rfl) (by kernel_rfl) (fun _ _ _ h => False.elim h) (.inl ⟨by rfl, ?y5⟩) HS.out ?_
    case y5 =>
      rintro w' ⟨s1, s2, s3, s4⟩
      go_simp
      try rw [if_pos (by omega)]
      try simp only [Int.toNat_natCast]
      first | done | with_reducible rfl
    refine wpAnyH_take (i := 5) (v := ?v6) rfl (by kernel_rfl) (by kernel_rfl) (by kernel_rfl) (fun _ _ _ h => False.elim h) (.inl ⟨by rfl, ?y6⟩) HS.out ?_
    case y6 =>
      rintro w' ⟨s1, s2, s3, s4⟩
      go_simp
      try rw [if_pos (by omega)]
      try simp only [Int.toNat_natCast]
      first | done | with_reducible rfl
    refine wpAnyH_take (i := 6) (v := ?v7) rfl (by kernel_rfl) (by kernel_rfl) (by kernel_rfl) (fun _ _ _ h => False.elim h) (.inl ⟨by rfl, ?y7⟩) HS.out ?_
    case y7 =>
      rintro w' ⟨s1, s2, s3, s4⟩
      go_simp
      try rw [if_pos (by omega)]
      try simp only [Int.toNat_natCast]
      first | done | with_reducible rfl
    refine held_last (i := 7) (by kernel_rfl) (by kernel_rfl) rfl (by rfl) ?_
    go_simp
    refine ⟨HT.out, ?_⟩
    gi_wp2
    exact R.out
  case done =>
    rintro D ys W hD hS ⟨v, b1, c1, b2, b3, h1, h2⟩ hK
    have t0 := b2.cell
    have HF : Hid (MadeP r.reverse w (.returned (.slice (some ⟨s + 1, 0, none⟩) n n)) (W.putObj D (.deferred none))) := by
      have e : (lsOf r (plP ys)).1 = r.reverse := by
        have hn := HN.out
        subst hn
        exact ls_all hS
      rw [e] at h1
      refine ⟨_, rfl, ?_, ?_⟩
      · rw [List.length_reverse, HN.out, hs]
        exact ownsRow_putObj h1 _ hK rfl
      · rw [hs]
        exact h2.grown (grownBy_putObj' W D _) (by rw [← hs]; have := h2.size; omega) (fun r e => by cases e; omega)
    clear b1 b2 b3 h1 h2 c1
    gi_wp2
    refine ⟨by simp, .inl ⟨_, _, rfl, run_takeDeferred hK, ?_⟩⟩
    refine ⟨_, results_tmp rfl _ _ _, ?_⟩
    exact HF.out
  case stop =>
    rintro D c pre W _ _ h _
    exact h.elim

end Go.Proofs.Ytmhnciljbdflcaa

namespace Go.Proofs.Ytmhnciljbdflcaa
open Go.RowKit

theorem sw_none (a b : List Int) (B : Nat) : SwK a b B 21 (fun x y z => #[x, y, z]) (fun _ _ _ _ => True) where
  next := fun h => h
  low := fun h _ => h
  keep := fun h _ _ => h
  call := fun j x _ _ _ _ _ _ _ _ hB => by
    clear hB
    go_enter Try.func21, Try.ntmps21
    go_wp2
    go_end0
    exact ⟨⟨_, rfl⟩, trivial, Below.refl _ _, fun _ _ h _ => h⟩

set_option maxRecDepth 100000 in
set_option maxHeartbeats 1600000 in
theorem hthr_any (A B : Option Addr) (n m c d : Nat) (a b : List Int) (w : World) (hn : a.length = n) (hm : b.length = m) (hb : n ≤ 1048576) (hb' : m ≤ 1048576) (h1 : Row w A (iv a)) (h2 : Row w B (iv b)) (wa : ∀ x ∈ a, (Lit.int .i64 x).wf = true) (wb : ∀ x ∈ b, (Lit.int .i64 x).wf = true) :
    Calls Try.prog 10 #[.slice A n c, .slice B m d] w (MadeI (thrL (px a b n) m) w) := by
  have C := Lib.hid (sweep_any 21 #[] (fun x y z => #[x, y, z]) (enters_of Try.func21 (by kernel_rfl) rfl) (fun _ _ _ => rfl) (fun _ _ _ _ => True) A B n m c d a b w w (sw_none a b _) hn hm hb hb' (Below.refl _ _) h1 h2 wa wb trivial)
  subst hn
  subst hm
  clear h1 h2 wa wb
  go_enter Try.func10, Try.ntmps10
  go_wp2_with fail
  refine C.out.mono ?_
  rintro e w1 ⟨v, K, rfl, q1, _, q2⟩
  have HF : Hid (MadeI (thrL (px a b a.length) b.length) w (.returned v) w1) := ⟨_, rfl, q1, q2⟩
  clear q1 q2 C
  go_wp2_with fail
  go_ret
  exact HF.out

theorem sw_run (a b : List Int) (B z : Nat) : SwK a b B 19 (fun x y k => #[x, y, k, .pointer (some ⟨z, 0, none⟩)]) (StR a b B z) where
  next := stR_next
  low := stR_low
  keep := fun h _ hk => stR_keep h hk
  call := fun j x ht hl _ _ hS hK hxa hxb hB => changed_any a b B z _ _ j x _ _ ht hl hS hK hxa hxb hB

/-- What Run leaves: a good list, as long as may be, and how many are alike. -/
def HrMade (a b : List Int) (w : World) (e : Ending) (w' : World) : Prop :=
  ∃ v l, e = .returned (.tuple #[v, .int .i64 (alike a b : Nat)]) ∧ (goodB a b l = true ∧ l.length = lcs a b) ∧ w'.ownsRow w.heap.size 37 2 v l.length (pv l) ∧ Below w.heap.size w w'
theorem hr_done {a b : List Int} {w w1 w2 w3 : World} {v : Value} {K z : Nat} {r : List Pr} (h1 : ChP a b a.length K (thrL (px a b a.length) b.length) (thrL (px a b a.length) b.length).length r.reverse) (hb1 : Below w.heap.size w w1) (ho : w2.ownsRow w1.heap.size 37 2 v r.reverse.length (pv r.reverse)) (hb2 : Below w1.heap.size w1 w2) (hb3 : Below w2.heap.size w2 w3) {n : Int} (hn : n = (alike a b : Nat)) (_ : z = z) :
    HrMade a b w (.returned (.tuple #[v, .int .i64 n])) w3 := by
  subst hn
  obtain ⟨g1, g2⟩ := h1.good
  refine ⟨v, r.reverse, rfl, ⟨g1, ?_⟩, own_lowerS (own_belowS ho hb3 (Nat.le_refl _)) hb1.size, below_go (below_go hb1 hb2) hb3⟩
  rw [g2, thr_length (px_zero_right a b _) (fun j => px_h a b _ j), px_all]

set_option maxRecDepth 100000 in
set_option maxHeartbeats 1600000 in
theorem hrun_any (A B : Option Addr) (n m c d : Nat) (a b : List Int) (w : World) (hn : a.length = n) (hm : b.length = m) (hb : n ≤ 1048576) (hb' : m ≤ 1048576) (h1 : Row w A (iv a)) (h2 : Row w B (iv b)) (wa : ∀ x ∈ a, (Lit.int .i64 x).wf = true) (wb : ∀ x ∈ b, (Lit.int .i64 x).wf = true) :
    Calls Try.prog 8 #[.slice A n c, .slice B m d] w (HrMade a b w) := by
  have hS0 : StR a b w.heap.size (w.heap.size + 1) 0 0 [] ((w.alloc (.cells #[.pointer none] 35)).alloc (.cells #[.slice (some ⟨w.heap.size, 0, none⟩) 1 1] 33)) := by
    have x1 := Boxed.new (w.alloc (.cells #[.pointer none] 35)) 33 (.slice (some ⟨w.heap.size, 0, none⟩) 1 1)
    simp only [World.size_alloc] at x1
    refine ⟨_, [.pointer none], x1, by omega, ?_, fun q hq => ?_⟩
    · exact (own_of_heap (n := 1) (us := [.pointer none]) (Nat.le_refl _) (by unfold maxLen; omega) rfl (World.alloc_heap_new w _)).alloc _
    · have hq0 : q = 0 := by simpa using hq
      subst hq0
      exact ⟨_, [], rfl, rfl, chp_nil _ _ _ _ _⟩
  have hB0 := below_alloc2 w (.cells #[.pointer none] 35) (.cells #[.slice (some ⟨w.heap.size, 0, none⟩) 1 1] 33)
  have C := Lib.hid (sweep_any 19 #[.pointer (some ⟨w.heap.size + 1, 0, none⟩)] (fun x y k => #[x, y, k, .pointer (some ⟨w.heap.size + 1, 0, none⟩)]) (enters_of Try.func19 (by kernel_rfl) rfl) (fun _ _ _ => rfl) (StR a b w.heap.size (w.heap.size + 1)) A B n m c d a b w _ (sw_run a b _ _) hn hm hb hb' hB0 h1 h2 wa wb hS0)
  clear hS0
  go_enter Try.func8, Try.ntmps8
  go_wp2_with fail
  refine C.out.mono ?_
  rintro e w1 ⟨v1, K, rfl, _, ⟨v, us, hbx, hzB, hown, hch⟩, hbw⟩
  clear C hB0
  have hTl := thr_le a b a.length
  obtain ⟨T, hT⟩ : ∃ T, thrL (px a b a.length) b.length = T := ⟨_, rfl⟩
  rw [hT] at hown hch hTl
  obtain ⟨u, r, hu, hcu, hpu⟩ := hch _ (Nat.le_refl _)
  have hul : us.length = T.length + 1 := by simpa using hown.1
  obtain ⟨g, cp, rfl, _, _, _⟩ := own_posS hown (by omega)
  obtain ⟨g1, o1, e1, hcells⟩ := (Row.of_own hown) (by intro e; rw [e] at hul; simp at hul)
  cases e1
  have hc0 := hcells _ _ hu
  rw [Nat.zero_add] at hc0
  have hzc := hbx.cell
  have hrl : r.length = T.length := by have := hpu.good.2; simpa using this
  have CL := Lib.hid (list_any u r T.length w1 hrl (by omega) hcu)
  have hsz := hbw.size
  have HD := Lib.hid (fun w2 w3 v q1 q2 q3 => hr_done (w2 := w2) (w3 := w3) (v := v) (z := 0) (hT ▸ hpu) hbw q1 q2 q3 (Eq.refl ((alike a b : Nat) : Int)) rfl)
  have HH := Lib.hid (fun w2 (q : Below w1.heap.size w1 w2) => hits_any A B n m c d a b w2 hn hm hb hb' (h1.below (below_go hbw q)) (h2.below (below_go hbw q)) wa wb)
  clear hown hch hcu hpu hbx hcells h1 h2 wa wb hu hT
  go_wp2_with fail
  refine CL.out.mono ?_
  rintro e w2 ⟨v2, rfl, o2, b2⟩
  have C2 := Lib.hid (HH.out w2 b2)
  clear HH CL
  go_wp2_with fail
  refine C2.out.mono ?_
  rintro e w3 ⟨rfl, b3⟩
  have R := Lib.hid (HD.out w2 w3 v2 o2 b2 b3)
  clear HD C2 o2 b2 b3
  go_wp2_with fail
  go_ret2
  exact R.out

end Go.Proofs.Ytmhnciljbdflcaa
