/-
  Words and contracts that the proof leans on.
-/
import Derived.Test.YtncbhnmhaoblaaaM29
import Derived.Test.YtncbhnmhaoblaaaM31
import Derived.Test.YtncbhnmhaoblaaaM11
namespace Go.Proofs.Ytncbhnmhaoblaaa
open Go.RowKit

/-- Where the stretch behind stored row k begins. -/
def posK (e n k : Nat) : Nat := min (k * e) n
theorem posK_at {e n k : Nat} (he : 1 ≤ e) (h : k < (n - 1) / e + 1) : posK e n k = k * e := by
  have := (Nat.le_div_iff_mul_le (show 0 < e by omega)).1 (show k ≤ (n - 1) / e by omega)
  unfold posK
  omega
theorem posK_next {e n k : Nat} : posK e n k + min e (n - posK e n k) = posK e n (k + 1) := by
  unfold posK
  rw [Nat.add_mul, Nat.one_mul]
  omega
theorem posK_end {e n : Nat} (he : 1 ≤ e) : posK e n ((n - 1) / e + 1) = n := by
  unfold posK
  have h1 := Nat.div_add_mod (n - 1) e
  have h2 := Nat.mod_lt (n - 1) (show 0 < e by omega)
  rw [Nat.add_mul, Nat.one_mul, Nat.mul_comm]
  omega
theorem kept_get {e n k : Nat} (he : 1 ≤ e) {l : List Int} (hl : l = keptL e n) {h : k < l.length} : l[k] = ((posK e n k : Nat) : Int) ∧ k < (n - 1) / e + 1 := by
  subst hl
  have h' := h
  rw [kept_len he] at h'
  have h1 := kept_at (n := n) (k := k) he (by omega)
  have h2 := (List.getElem?_eq_some_iff.1 h1).2
  exact ⟨by rw [h2, posK_at he h'], h'⟩
theorem min_first {E : Nat} {e : Int} {x : Nat} (he : e = (E : Int)) : min e (x : Int) = ((min E x : Nat) : Int) := by subst he; omega

/-- The heads of the rounds of down. -/
def DnRel (a b : List Int) (m W n e K : Nat) (w1 : World) (v i : Value) (wr : World) : Prop :=
  ∃ k : Nat, k ≤ K ∧ i = .int .i64 (k : Int) ∧ RdW (w1.heap.size + 1) W (rowsF m (alikeAt a b) (posK e n k)) wr v ∧ WPart (w1.heap.size + 1) W K w1.heap.size k (fun k => rowsF m (alikeAt a b) (posK e n k)) wr ∧ Below w1.heap.size w1 wr
def DiRel (a b : List Int) (m W f L lo : Nat) (w2 : World) (v i : Value) (wr : World) : Prop :=
  ∃ k : Nat, k ≤ L ∧ i = .int .i64 (k : Int) ∧ RdW lo W (rowsF m (alikeAt a b) (f + k)) wr v ∧ Below w2.heap.size w2 wr
theorem di_step {a b : List Int} {m W f L lo k : Nat} {w2 wr w3 : World} {q : Value} (hk : k < L) (hB : Below w2.heap.size w2 wr) (hb : Below wr.heap.size wr w3) (hl : lo ≤ wr.heap.size) (hq : RdW wr.heap.size W (rowsF m (alikeAt a b) (f + k + 1)) w3 q) : DiRel a b m W f L lo w2 q (.int .i64 ((k + 1 : Nat) : Int)) w3 :=
  ⟨k + 1, hk, rfl, hq.lower hl, hB.trans (hb.mono hB.size)⟩
theorem dn_next {a b : List Int} {m W n e K k f L : Nat} {w1 wr w2 w3 : World} {v q : Value} (hk : k < K) (hL : f + L = posK e n (k + 1)) (hP : WPart (w1.heap.size + 1) W K w1.heap.size k (fun k => rowsF m (alikeAt a b) (posK e n k)) wr) (hv : RdW (w1.heap.size + 1) W (rowsF m (alikeAt a b) (posK e n k)) wr v) (hB : Below w1.heap.size w1 wr) (h2 : Below wr.heap.size (wr.setCell ⟨w1.heap.size, k, none⟩ v) w2) (h3 : Below w2.heap.size w2 w3) (hq : RdW (w1.heap.size + 1) W (rowsF m (alikeAt a b) (f + L)) w3 q) :
    DnRel a b m W n e K w1 q (.int .i64 ((k + 1 : Nat) : Int)) w3 := by
  have h4 : Below wr.heap.size (wr.setCell ⟨w1.heap.size, k, none⟩ v) w3 := h2.trans (h3.mono (by have := h2.size; simpa using this))
  rw [hL] at hq
  have hs : (wr.setCell ⟨w1.heap.size, k, none⟩ v).heap.size = wr.heap.size := by simp
  exact ⟨k + 1, hk, rfl, hq, (hP.put hv (Nat.lt_succ_self _)).below (by rw [hs]; exact h4), (hB.setCell (Nat.le_refl _) v).trans (h4.mono hB.size)⟩
theorem dn_doneWkF {a b : List Int} {m W n e K : Nat} {w w1 wr : World} (hK : K ≤ 1048576) (hP : WPart (w1.heap.size + 1) W K w1.heap.size K (fun k => rowsF m (alikeAt a b) (posK e n k)) wr) (hB : Below w1.heap.size w1 wr) (hw : Below w.heap.size w w1) :
    RwMade W K (fun k => rowsF m (alikeAt a b) (posK e n k)) w (.returned (.slice (some ⟨w1.heap.size, 0, none⟩) K K)) wr :=
  ⟨_, _, rfl, Nat.le_refl _, by unfold maxLen; omega, hP.read, below_go hw hB⟩

set_option maxRecDepth 100000 in
set_option maxHeartbeats 3200000 in
theorem down_anyWkF (F : Nat) (eg : ∀ args w, (callFunc F args).run Try.prog w = .ok (.enter F args) w) (hF : RowOK F) (A B D : Option Addr) (n m c d p W lo hi E K cK : Nat) (e : Int) (a b l : List Int) (w : World) (hn : a.length = n) (hm : b.length = m) (hb : n ≤ 1048576) (hb' : m ≤ 1048576) (hW : wdsVc3 m = W) (hc : n ≤ c) (hE : e = (E : Int)) (he : 1 ≤ E) (hl : l = keptL E n) (hK : l.length = K) (hI : TbIn lo hi p A a b w) (wa : ∀ x ∈ a, (Lit.int .i64 x).wf = true) (hk : Row w D (iv l)) :
    Calls Try.prog 26 #[tbV F A n c B m d p e, .slice D K cK] w (RwMade W K (fun k => rowsF m (alikeAt a b) (posK E n k)) w) := by
  obtain ⟨i0, hi0, hz0, hz1, hz2⟩ := info_parts Try.infoRowW
  have hKK : K = (n - 1) / E + 1 := by rw [← hK, hl, kept_len he]
  have hKb : K ≤ 1048576 := by
    have := Nat.div_le_self (n - 1) E
    by_cases h0 : n = 0
    · subst h0
      have : (0 - 1) / E = 0 := by simp
      omega
    · omega
  have hwm := wid_nat hb'
  have hNW : m ≤ 64 * W := by have := wds_wid (m : Int); rw [hwm, hW] at this; exact this
  have HNW := Lib.hid hNW
  have HON := Lib.hid (fun w => ponesOK (m : Int) w (i64_small (by omega)))
  rw [hW, hwm] at HON
  have CS := Lib.hid (fun f (hf : f ≤ n) w (h : Row w A (iv a)) => stretch_any F A B n m c d p f (min E (n - f)) e a w hn hc hf (min_first hE) h)
  have CF := Lib.hid (fun lv x g v w (h : TbIn lo hi p A a b w) hx hv => follow_anyWkD F eg hF A B n m c d p W lo lv hi e x b g v w hm hb' hW h.1 h.2.1 hx hv)
  have HPn : Hid (∀ k, posK E n k ≤ n ∧ posK E n k ≤ 1048576) := fun k => by unfold posK; omega
  have HNx : Hid (∀ k, posK E n k + min E (n - posK E n k) = posK E n (k + 1)) := fun k => posK_next
  have HS : Hid (∀ f, f ≤ n → ((a.drop f).take (min E (n - f))).length = min E (n - f)) := fun f hf => by
    rw [List.length_take, List.length_drop]
    omega
  have HLb : Hid (∀ f, min E (n - f) ≤ 1048576) := fun f => by omega
  have HWA : Hid (∀ f x, x ∈ (a.drop f).take (min E (n - f)) → (Lit.int .i64 x).wf = true) := fun f x hx => wa x (List.mem_of_mem_drop (List.mem_of_mem_take hx))
  have HPC : Hid (∀ f k x, ((a.drop f).take (min E (n - f)))[k]? = some x → a[f + k]? = some x) := fun f k x h => piece_at h
  have HRB := Lib.hid (fun i x hx => row_bits (a := a) (b := b) (m := m) (i := i) (x := x) hx)
  have HKG : Hid (∀ k (h : k < l.length), l[k] = ((posK E n k : Nat) : Int)) := fun k h => (kept_get he hl (h := h)).1
  clear hF hn hW wa hb hb' hc hE he hl hKK hNW hwm
  unfold tbV at CS CF ⊢
  go_enter Try.func26, Try.ntmps26
  go_wp2_with (at_make; refine wpList_make_row _ rfl _ _ 52 rfl 64 i0 (.slice none 0 0) Try.underlying52 hi0 hz0 hz1 rfl .i64 .i64 K rfl rfl (by rw [hz2]; omega) (by omega) ?_)
  have hT := tb_new F A n c B m d p e w
  have hB := below_a1 w (.cells #[.func (.func F) #[] #[], .slice A n c, .slice B m d, .pointer (some ⟨p, 0, none⟩), .int .i64 e] 50)
  have hI1 := hI.below hB
  have hk1 := hk.below hB
  have hw1 : (w.alloc (.cells #[.func (.func F) #[] #[], .slice A n c, .slice B m d, .pointer (some ⟨p, 0, none⟩), .int .i64 e] 50)).heap.size = w.heap.size + 1 := by simp
  clear hI hk
  generalize w.alloc (.cells #[.func (.func F) #[] #[], .slice A n c, .slice B m d, .pointer (some ⟨p, 0, none⟩), .int .i64 e] 50) = w1 at *
  rw [← hw1]
  clear hw1
  have hP := WPart.start (lo := w1.heap.size + 1) (W := W) (b := fun k => rowsF m (alikeAt a b) (posK E n k)) w1 K
  have hB3 := below_a1 w1 (.cells (madeCells #[.slice none 0 0] K) 64)
  have hs3 : (w1.alloc (.cells (madeCells #[.slice none 0 0] K) 64)).heap.size = w1.heap.size + 1 := by simp
  obtain ⟨c0, c1, c2, c3, c4⟩ := (hT.below hB3).cells
  generalize w1.alloc (.cells (madeCells #[.slice none 0 0] K) 64) = w2 at *
  go_wp2_with fail
  refine (HON.out w2).mono ?_
  intro y w3 hmd
  obtain ⟨v, rfl, hv, hb3⟩ := madeV_open (b := rowsF m (alikeAt a b) (posK E n 0)) hmd (fun j => by
    have e0 : posK E n 0 = 0 := by unfold posK; omega
    rw [e0]
    show (decide (j < 64 * W) && (decide (j < m) && true)) = (decide (j < m) && true)
    by_cases h : j < m
    · rw [decide_eq_true (show j < 64 * W by have := HNW.out; omega), Bool.true_and]
    · rw [decide_eq_false h, Bool.false_and, Bool.and_false]) (lo := w1.heap.size + 1) (by omega)
  have hP3 := hP.below hb3
  have hB4 := below_go hB3 hb3
  obtain ⟨V, cV, rfl⟩ := hv.form
  clear hmd hP hB3 hb3 HON c0 c1 c2 c3 c4 hs3
  go_wp2_with fail
  go_loopw [6, 20] (fun v i wr => DnRel a b m W n E K w1 v i wr) (fun _ i _ => K - (RowKit.intOf i).toNat)
  case atStart => exact ⟨0, Nat.zero_le _, rfl, hv, hP3, hB4⟩
  case round =>
    clear hv hP3 hB4
    obtain ⟨k, hk, rfl, hv, hP, hBr⟩ := hrel
    by_cases hlt : k < K
    · have hlt' : k < l.length := by rw [hK]; exact hlt
      obtain ⟨g, o, rfl, hcl⟩ := (hk1.below hBr).int hlt'
      have e1 := HKG.out k hlt'
      rw [e1] at hcl
      obtain ⟨f1, f2⟩ := HPn.out k
      have HN1 := Lib.hid (HNx.out k)
      have hT1 : w1.heap.size < wr.heap.size := by obtain ⟨G, h, _⟩ := hP; exact h.lt
      obtain ⟨u0, hcc⟩ := hP.cell hlt
      have hff := hP.frozen k
      obtain ⟨V, cV, rfl⟩ := hv.form
      have hTr := (hT.below hBr).other (Q := w1.heap.size) (i := k) (by have := hT.lt; omega) (.slice V W cV)
      have hBs := hBr.setCell (p := ⟨w1.heap.size, k, none⟩) (Nat.le_refl _) (.slice V W cV)
      have hIs := hI1.below hBs
      have hvs := hv.set (i := k) (Nat.lt_succ_self _) (.slice V W cV)
      have HN := Lib.hid (fun f L w2 w3 q hL h2 h3 hq => dn_next (f := f) (L := L) (w2 := w2) (w3 := w3) (q := q) hlt hL hP hv hBr h2 h3 hq)
      obtain ⟨f, hf⟩ : ∃ f, posK E n k = f := ⟨_, rfl⟩
      have HF0 := Lib.hid hf
      rw [hf] at hcl f1 f2 HN1 hvs
      obtain ⟨c0, c1, c2, c3, c4⟩ := hTr.cells
      have hsz : (wr.setCell ⟨w1.heap.size, k, none⟩ (.slice V W cV)).heap.size = wr.heap.size := by simp
      go_wp2_with fail
      have HSx := Lib.hid (HS.out f f1)
      have HWx := Lib.hid (HWA.out f)
      have HPx := Lib.hid (HPC.out f)
      have hLx := HLb.out f
      have CSx := Lib.hid (CS.out f f1 _ hIs.2.2)
      obtain ⟨s, hs⟩ : ∃ s, (a.drop f).take (min E (n - f)) = s := ⟨_, rfl⟩
      have HSt : Hid (∀ w y w', StMade a f (min E (n - f)) w y w' → ∃ A' c', y = .returned (.slice A' (min E (n - f)) c') ∧ Row w' A' (iv s) ∧ Below w.heap.size w w') := fun w y w' h => by
        obtain ⟨A', c', q1, q2, q3⟩ := h
        rw [hs] at q2
        exact ⟨A', c', q1, q2, q3⟩
      rw [hs] at HSx HWx HPx
      clear hs
      generalize min E (n - f) = L at *
      refine CSx.out.mono ?_
      intro y w4 hst
      obtain ⟨A', c', rfl, hrs, hb4⟩ := HSt.out _ _ _ hst
      have hs4 := hb4.size
      have hv4 := hvs.below hb4
      have hI4 := hIs.below hb4
      have hT4 := hTr.below hb4
      have HN4 := Lib.hid (fun w3 q h3 hq => HN.out f L w4 w3 q HN1.out (by rw [hsz] at hb4; exact hb4) h3 hq)
      have hl4 : w1.heap.size + 1 ≤ w4.heap.size := by omega
      clear HSt hst hb4 CSx HN HN1 hvs hIs hTr c0 c1 c2 c3 c4 hcc hff hP hv hBr hBs hcl
      go_wp2_with fail
      go_loopw [6, 33] (fun v i wr => DiRel a b m W f L (w1.heap.size + 1) w4 v i wr) (fun _ i _ => L - (RowKit.intOf i).toNat)
      case atStart => exact ⟨0, Nat.zero_le _, rfl, hv4, Below.refl _ _⟩
      case round =>
        clear hv4
        obtain ⟨j, hj, rfl, hv, hB⟩ := hrel
        by_cases hjl : j < L
        · have hjl' : j < s.length := by rw [HSx.out]; exact hjl
          obtain ⟨g', o', rfl, hcl⟩ := (hrs.below hB).int hjl'
          have HX := Lib.hid (HPx.out j _ (List.getElem?_eq_getElem hjl'))
          have hx := HWx.out _ (List.getElem_mem hjl')
          generalize s[j] = x at *
          have hIr := hI4.below hB
          obtain ⟨c0, c1, c2, c3, c4⟩ := (hT4.below hB).cells
          obtain ⟨V', cV', rfl⟩ := hv.form
          go_wp2_with fail
          refine (CF.out _ x _ _ _ hIr hx hv).mono ?_
          rintro y w5 ⟨q, rfl, hq, hb5⟩
          have hq' := hq.congr (HRB.out (f + j) x HX.out)
          have R := Lib.hid (di_step (lo := w1.heap.size + 1) hjl hB hb5 (by have := hB.size; omega) hq')
          obtain ⟨Vq, cq, rfl⟩ := hq.form
          clear hq hq' hB hb5 hv c0 c1 c2 c3 c4 hcl hIr
          go_wp2_with fail
          go_roundw
          case rel => exact R.out
          case measure => first | omega | (simp [RowKit.intOf]; omega)
        · obtain rfl : j = L := by omega
          have R := Lib.hid (HN4.out _ _ hB hv)
          obtain ⟨V', cV', rfl⟩ := hv.form
          clear hB hv HN4 hrs hI4 hT4
          go_wp2_with fail
          go_roundw
          case rel => exact R.out
          case measure => first | omega | (simp [RowKit.intOf]; omega)
    · obtain rfl : k = K := by omega
      have HF := Lib.hid (dn_doneWkF hKb hP hBr hB)
      clear hv hP hBr hB hI1 hT hk1
      go_wp2_with fail
      go_ret
      exact HF.out

end Go.Proofs.Ytncbhnmhaoblaaa
