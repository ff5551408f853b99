/-
  Words and contracts that the proof leans on.
-/
import Derived.Test.YtncbhnmhaoblaaaM32
import Derived.Test.YtncbhnmhaoblaaaM33
import Derived.Test.YtncbhnmhaoblaaaM34
namespace Go.Proofs.Ytncbhnmhaoblaaa
open Go.RowKit

theorem RdW.grown {lo W : Nat} {b : Nat → Bool} {w w' : World} {v : Value} {r : Option Nat} (h : RdW lo W b w v) (hg : w.grownBy w' r) (hr : ∀ k, r = some k → k < lo) : RdW lo W b w' v := by
  obtain ⟨A, c, x, rfl, h1, h2, h3, h4, h5, h6, h7⟩ := h
  refine ⟨A, c, x, rfl, h1, h2, h3, h4, h5, h6.grown hg fun a e e' => ?_, h7⟩
  have := h7 a e
  have := hr _ e'.symm
  omega
theorem WPart.grown {W n T k : Nat} {b : Nat → Nat → Bool} {w w' : World} {r : Option Nat} (h : WPart (T + 1) W n T k b w) (hg : w.grownBy w' r) (hr : ∀ k, r = some k → k < T) : WPart (T + 1) W n T k b w' := by
  obtain ⟨F, h1, h2⟩ := h
  exact ⟨F, rowIs_grown h1 hg (fun e => by have := hr _ e.symm; omega), fun i hi => (h2 i hi).grown hg (fun k e => by have := hr _ e; omega)⟩

/-- What a round of back reads. -/
def BkS (P F : Nat) (A : Option Addr) (n c : Nat) (B : Option Addr) (m d p : Nat) (e : Int) (q : Addr) (v : Value) (w : World) : Prop :=
  w.cell? ⟨P, 0, none⟩ = some (.func (.func F) #[] #[]) ∧ w.cell? ⟨P, 1, none⟩ = some (.slice A n c) ∧ w.cell? ⟨P, 2, none⟩ = some (.slice B m d) ∧ w.cell? ⟨P, 3, none⟩ = some (.pointer (some ⟨p, 0, none⟩)) ∧ w.cell? ⟨P, 4, none⟩ = some (.int .i64 e) ∧ w.cell? q = some v
theorem bk_s {P F : Nat} {A : Option Addr} {n c : Nat} {B : Option Addr} {m d p : Nat} {e : Int} {q : Addr} {v : Value} {w : World} (h : TbB F A n c B m d p e w P) (hq : w.cell? q = some v) : BkS P F A n c B m d p e q v w := by
  obtain ⟨c0, c1, c2, c3, c4⟩ := h.cells
  exact ⟨c0, c1, c2, c3, c4, hq⟩

/-- The heads of the rounds of back. -/
def BoRel (a b : List Int) (n m E K : Nat) (w1 : World) (v j k : Value) (wr : World) : Prop :=
  ∃ (K1 J : Nat) (kk : Int) (l : List Pr), K1 ≤ K ∧ k = .int .i64 kk ∧ kk = (K1 : Int) - 1 ∧ j = .int .i64 (J : Int) ∧ J ≤ m ∧ l.length + J ≤ m ∧ Hid (wayL a b n m = wayL a b (posK E n K1) J ++ l.reverse) ∧ wr.ownsRow w1.heap.size 29 2 v l.length (pv l) ∧ Below w1.heap.size w1 wr
def BiRelWkG (a b : List Int) (n m f L base : Nat) (v0 : Value) (w2 : World) (v j i : Value) (wr : World) : Prop :=
  ∃ (I J : Nat) (l : List Pr), i = .int .i64 (I : Int) ∧ f ≤ I ∧ I ≤ f + L ∧ j = .int .i64 (J : Int) ∧ J ≤ m ∧ l.length + J ≤ m ∧ Hid (wayL a b n m = wayL a b I J ++ l.reverse) ∧ Own base v0 l w2 v wr
theorem bo_done {a b : List Int} {n m E K1 J : Nat} {w w1 wr : World} {v : Value} {l : List Pr} (h0 : K1 = 0 ∨ J = 0) (hw : wayL a b n m = wayL a b (posK E n K1) J ++ l.reverse) (hO : wr.ownsRow w1.heap.size 29 2 v l.length (pv l)) (hB : Below w1.heap.size w1 wr) (hb : Below w.heap.size w w1) : MadeP (wayL a b n m).reverse w (.returned v) wr := by
  have e0 : wayL a b (posK E n K1) J = [] := by
    rcases h0 with rfl | rfl
    · have : posK E n 0 = 0 := by unfold posK; omega
      rw [this, way_top]
    · exact way_left _ _ _
  rw [e0, List.nil_append] at hw
  have e1 : (wayL a b n m).reverse = l := by rw [hw, List.reverse_reverse]
  rw [e1]
  exact ⟨_, rfl, own_lowerS hO hb.size, below_go hb hB⟩
theorem bi_done {a b : List Int} {n m f E k K I J : Nat} {w1 w2 wr0 wr : World} {v0 v : Value} {l l0 : List Pr} (hk : k ≤ K) (hf : posK E n k = f) (h0 : I = f ∨ J = 0) (hJ : J ≤ m) (hl : l.length + J ≤ m) (hw : wayL a b n m = wayL a b I J ++ l.reverse) (h0' : wr0.ownsRow w1.heap.size 29 2 v0 l0.length (pv l0)) (hB : Below w1.heap.size w1 wr0) (h2 : Below wr0.heap.size wr0 w2) (hO : Own w1.heap.size v0 l w2 v wr) : BoRel a b n m E K w1 v (.int .i64 (J : Int)) (.int .i64 ((k : Int) - 1)) wr := by
  refine ⟨k, J, _, l, hk, rfl, rfl, rfl, hJ, hl, ?_, hO.1, ?_⟩
  · show _ = _
    rw [hw, hf]
    rcases h0 with rfl | rfl
    · rfl
    · rw [way_left, way_left]
  · have hb := hB.trans (h2.mono hB.size)
    exact hO.below hb (own_belowS h0' h2 (Nat.le_refl _))
theorem bi_stay {a b : List Int} {n m f L base I J i j : Nat} {v0 v : Value} {w2 wr : World} {l : List Pr} (hIi : I = i + 1) (hJj : J = j + 1) (hv : vB a b (i + 1) j = true) (hf : f ≤ I) (hI : I ≤ f + L) (hJ : J ≤ m) (hl : l.length + J ≤ m) (hw : wayL a b n m = wayL a b I J ++ l.reverse) (hO : Own base v0 l w2 v wr) : BiRelWkG a b n m f L base v0 w2 v (.int .i64 (j : Int)) (.int .i64 (I : Int)) wr := by
  subst hIi
  subst hJj
  exact ⟨i + 1, j, l, rfl, hf, hI, rfl, by omega, by omega, by show _ = _; rw [hw, way_stay hv], hO⟩
theorem bi_up {a b : List Int} {n m f L base I J i j : Nat} {v0 v : Value} {w2 wr : World} {l : List Pr} (hIi : I = i + 1) (hJj : J = j + 1) (hv : vB a b (i + 1) j = false) (ha : alikeAt a b i j = false) (hf : f ≤ i) (hI : I ≤ f + L) (hJ : J ≤ m) (hl : l.length + J ≤ m) (hw : wayL a b n m = wayL a b I J ++ l.reverse) (hO : Own base v0 l w2 v wr) : BiRelWkG a b n m f L base v0 w2 v (.int .i64 (J : Int)) (.int .i64 (i : Int)) wr := by
  subst hIi
  subst hJj
  exact ⟨i, j + 1, l, rfl, hf, by omega, rfl, hJ, hl, by show _ = _; rw [hw, way_up hv ha], hO⟩
theorem bi_pair {a b : List Int} {n m f L base I J i j : Nat} {v0 v : Value} {w2 wr : World} {l : List Pr} (hIi : I = i + 1) (hJj : J = j + 1) (hv : vB a b (i + 1) j = false) (ha : alikeAt a b i j = true) (hf : f ≤ i) (hI : I ≤ f + L) (hJ : J ≤ m) (hl : l.length + J ≤ m) (hw : wayL a b n m = wayL a b I J ++ l.reverse) (hO : Own base v0 (l ++ [((i : Int), (j : Int))]) w2 v wr) : BiRelWkG a b n m f L base v0 w2 v (.int .i64 (j : Int)) (.int .i64 (i : Int)) wr := by
  subst hIi
  subst hJj
  exact ⟨i, j, _, rfl, hf, by omega, rfl, by omega, by simp; omega, by show _ = _; rw [hw, way_pair hv ha, List.reverse_append, List.append_assoc]; rfl, hO⟩

set_option maxRecDepth 100000 in
set_option maxHeartbeats 6400000 in
theorem wback_any (F : Nat) (eg : ∀ args w, (callFunc F args).run Try.prog w = .ok (.enter F args) w) (hF : RowOK F) (A B D S : Option Addr) (n m c d p W lo hi E K cK cS : Nat) (e : Int) (a b l : List Int) (w : World) (hn : a.length = n) (hm : b.length = m) (hb : n ≤ 1048576) (hb' : m ≤ 1048576) (hW : wdsVc3 m = W) (hc : n ≤ c) (hE : e = (E : Int)) (he : 1 ≤ E) (hl : l = keptL E n) (hK : l.length = K) (hI : TbIn lo hi p A a b w) (h2 : Row w B (iv b)) (wa : ∀ x ∈ a, (Lit.int .i64 x).wf = true) (hk : Row w D (iv l)) (hS : RdR W K (fun k => rowsF m (alikeAt a b) (posK E n k)) w S) :
    Calls Try.prog 25 #[tbV F A n c B m d p e, .slice D K cK, .slice S K cS] w (MadeP (wayL a b n m).reverse w) := by
  obtain ⟨i0, hi0, hz0, hz1, hz2⟩ := info_parts Try.infoPair
  have hmx : Try.prog.follows .mixedOrders = true := by kernel_rfl
  have hKK : K = (n - 1) / E + 1 := by rw [← hK, hl, kept_len he]
  have hKb : K ≤ 1048576 := by
    have := Nat.div_le_self (n - 1) E
    by_cases h0 : n = 0
    · subst h0
      have : (0 - 1) / E = 0 := by simp
      omega
    · omega
  have hPE : posK E n K = n := by rw [hKK]; exact posK_end he
  have hwm := wid_nat hb'
  have hWl : W ≤ 16384 := by have := wds_le m; omega
  have CA := Lib.hid (fun f (hf : f ≤ n) v w (h : TbIn lo hi p A a b w) hv => again_any F eg hF A B n m c d p W lo hi f (min E (n - f)) e a b v w hn hm hb hb' hW hc hf (min_first hE) h wa hv)
  have HPn : Hid (∀ k, posK E n k ≤ n ∧ posK E n k ≤ 1048576) := fun k => by unfold posK; omega
  have HNx : Hid (∀ k, posK E n k + min E (n - posK E n k) = posK E n (k + 1)) := fun k => posK_next
  have HKG : Hid (∀ k (h : k < l.length), l[k] = ((posK E n k : Nat) : Int)) := fun k h => (kept_get he hl (h := h)).1
  have HRA : Hid (∀ i j, j < m → rowsF m (alikeAt a b) i j = vB a b i j) := fun i j h => rows_are (fun _ _ _ => rfl) i j h
  have HAl : Hid (∀ (i j : Nat) (x y : Int), a[i]? = some x → b[j]? = some y → alikeAt a b i j = (x == y)) := fun i j x y h h' => by
    unfold alikeAt
    rw [h, h']
  have hKm : ((K : Int) - 1) + 1 = (K : Int) := by omega
  clear hF hW wa hc hE he hl hKK hwm
  unfold tbV at CA ⊢
  go_enter Try.func25, Try.ntmps25
  have hT := tb_new F A n c B m d p e w
  have hB := below_a1 w (.cells #[.func (.func F) #[] #[], .slice A n c, .slice B m d, .pointer (some ⟨p, 0, none⟩), .int .i64 e] 50)
  obtain ⟨c0, c1, c2, c3, c4⟩ := hT.cells
  go_wp2_with fail
  clear c0 c1 c2 c3 c4
  have hI1 := hI.below hB
  have hk1 := hk.below hB
  have h21 := h2.below hB
  have hS1 := hS.below hB
  clear hI hk h2 hS
  generalize w.alloc (.cells #[.func (.func F) #[] #[], .slice A n c, .slice B m d, .pointer (some ⟨p, 0, none⟩), .int .i64 e] 50) = w1 at *
  have HB := Lib.hid hB
  go_loopw [7, 8, 9] (fun v j k wr => BoRel a b n m E K w1 v j k wr) (fun _ _ k _ => (RowKit.intOf k + 1).toNat)
  case atStart => exact ⟨K, m, _, [], Nat.le_refl _, rfl, rfl, rfl, Nat.le_refl _, by simp, by show _ = _; rw [hPE]; simp, World.ownsRow_nil _ _ _ _, Below.refl _ _⟩
  case round =>
    clear hB hPE
    obtain ⟨K1, J, kk, M, hk1', rfl, hkk, rfl, hJ, hMl, HWy, hO, hBr⟩ := hrel
    by_cases h0 : K1 = 0
    · subst h0
      have hkz : ¬ (0 ≤ kk) := by omega
      have HF := Lib.hid (bo_done (.inl rfl) HWy.out hO hBr HB.out)
      clear HWy hO hBr hkk
      go_wp2_with fail
      go_ret
      exact HF.out
    obtain ⟨k, rfl⟩ : ∃ k, K1 = k + 1 := ⟨K1 - 1, by omega⟩
    obtain rfl : kk = (k : Int) := by omega
    clear hkk h0
    by_cases hJ0 : J = 0
    · subst hJ0
      have HF := Lib.hid (bo_done (.inr rfl) HWy.out hO hBr HB.out)
      clear HWy hO hBr
      go_wp2_with fail
      go_ret
      exact HF.out
    have hkl : k < l.length := by rw [hK]; exact hk1'
    have hkK : k < K := hk1'
    have hJp : (0 : Int) < (J : Int) := by omega
    obtain ⟨g, o, rfl, hcl⟩ := (hk1.below hBr).int hkl
    have e1 := HKG.out k hkl
    rw [e1] at hcl
    clear e1
    obtain ⟨f1, f2⟩ := HPn.out k
    have HN1 := Lib.hid (HNx.out k)
    obtain ⟨g', o', V, cV, z, rfl, hcS, y1, y2, y3, y4, y5, y6⟩ := (hS1.below hBr).cell (k := k) hkK
    have hSl : g' < wr.heap.size := World.block_lt_of_cell? _ _ hcS
    have hTr := hT.below hBr
    have hTl := hTr.lt
    have hBd := hBr.drew
    have hv : RdW 0 W (rowsF m (alikeAt a b) (posK E n k)) wr.drew (.slice V W cV) := ⟨V, cV, z, rfl, y1, y2, y3, y4, y5, y6, fun _ _ => Nat.zero_le _⟩
    obtain ⟨f, hf⟩ : ∃ f, posK E n k = f := ⟨_, rfl⟩
    rw [hf] at hcl f1 f2 HN1 hv
    have CAx := Lib.hid (CA.out f f1 _ wr.drew (hI1.below hBd) hv)
    have HLb : Hid (min E (n - f) ≤ n ∧ f + min E (n - f) ≤ n) := by show _ ∧ _; omega
    obtain ⟨L, hL⟩ : ∃ L, min E (n - f) = L := ⟨_, rfl⟩
    rw [hL] at CAx HLb HN1
    clear hL
    have hLb1 := HLb.out.1
    have hBo := Lib.hid (fun u I J l w2 wx (h0 : I = f ∨ J = 0) h1 h2 h3 (h4 : Below wr.heap.size wr w2) (h5 : Own w1.heap.size u7 l w2 u wx) => bi_done (a := a) (b := b) (n := n) (m := m) (E := E) (K := K) (v := u) (I := I) (J := J) (l := l) (w2 := w2) (wr := wx) (by omega : k ≤ K) hf h0 h1 h2 h3 (show wr.ownsRow w1.heap.size 29 2 u7 M.length (pv M) from hO) hBr h4 h5)
    have HS0 : Hid (BkS w.heap.size F A n c B m d p e ⟨g', o' + k, none⟩ (.slice V W cV) wr.drew) := bk_s hTr hcS
    have HOd : Hid (wr.drew.ownsRow w1.heap.size 29 2 u7 M.length (pv M)) := hO
    have hlt0 : ∀ q, u7.ownBlock = some q → w1.heap.size ≤ q ∧ q < wr.heap.size := fun q h => hO.lt q h
    have HLT := Lib.hid hlt0
    have HBR := Lib.hid hBr
    have HTR := Lib.hid hTr
    clear hlt0 hv hTr hcS hBd y1 y2 y3 y4 y5 y6 hO hBr
    go_wp2_with fail
    refine wp_region_held (S := BkS w.heap.size F A n c B m d p e ⟨g', o' + k, none⟩ (.slice V W cV)) hmx ?_
    refine wpAnyH_take (i := 0) (v := ?v1) rfl (by kernel_rfl) (by kernel_rfl) (by kernel_rfl) (fun _ _ _ h => h) (.inl ⟨by kernel_rfl, ?y1⟩) HS0.out ?_
    case y1 =>
      rintro w' ⟨s0, s1, s2, s3, s4, s5⟩
      go_simp
      first | done | with_reducible rfl | rfl
    try simp only [Act.put]
    refine wpAnyH_take (i := 1) (v := ?v2) rfl (by kernel_rfl) (by kernel_rfl) (by kernel_rfl) (fun _ _ _ h => h) (.inl ⟨by kernel_rfl, ?y2⟩) HS0.out ?_
    case y2 =>
      rintro w' ⟨s0, s1, s2, s3, s4, s5⟩
      go_simp
      first | done | with_reducible rfl | rfl
    try simp only [Act.put]
    refine wpAnyH_take (i := 2) (v := ?v3) rfl (by kernel_rfl) (by kernel_rfl) (by kernel_rfl) (fun _ _ _ h => h) (.inl ⟨by kernel_rfl, ?y3⟩) HS0.out ?_
    case y3 =>
      rintro w' ⟨s0, s1, s2, s3, s4, s5⟩
      go_simp
      first | done | with_reducible rfl | rfl
    try simp only [Act.put]
    refine wpAnyH_take (i := 3) (v := ?v4) rfl (by kernel_rfl) (by kernel_rfl) (by kernel_rfl) (fun _ _ _ h => h) (.inl ⟨by kernel_rfl, ?y4⟩) HS0.out ?_
    case y4 =>
      rintro w' ⟨s0, s1, s2, s3, s4, s5⟩
      go_simp
      first | done | with_reducible rfl | rfl
    try simp only [Act.put]
    refine wpAnyH_take (i := 4) (v := ?v5) rfl (by kernel_rfl) (by kernel_rfl) (by kernel_rfl) (fun _ _ _ h => h) (.inl ⟨by kernel_rfl, ?y5⟩) HS0.out ?_
    case y5 =>
      rintro w' ⟨s0, s1, s2, s3, s4, s5⟩
      go_simp
      first | done | with_reducible rfl | rfl
    try simp only [Act.put]
    refine wpAnyH_take (i := 5) (v := ?v6) rfl (by kernel_rfl) (by kernel_rfl) (by kernel_rfl) (fun _ _ _ h => h) (.inl ⟨by kernel_rfl, ?y6⟩) HS0.out ?_
    case y6 =>
      rintro w' ⟨s0, s1, s2, s3, s4, s5⟩
      go_simp
      first | done | with_reducible rfl | rfl
    try simp only [Act.put]
    refine held_one (i := 6) (by kernel_rfl) rfl (by kernel_rfl) ?_
    unfold Oper.wp
    go_simp
    refine (CAx.out).mono ?_
    rintro y w2 ⟨T, rfl, hTl2, hPt, hb2⟩
    have HS2 : Hid (BkS w.heap.size F A n c B m d p e ⟨g', o' + k, none⟩ (.slice V W cV) w2) := by
      obtain ⟨s0, s1, s2, s3, s4, s5⟩ := HS0.out
      exact ⟨(hb2.cell (p := ⟨w.heap.size, 0, none⟩) hTl).trans s0, (hb2.cell (p := ⟨w.heap.size, 1, none⟩) hTl).trans s1, (hb2.cell (p := ⟨w.heap.size, 2, none⟩) hTl).trans s2, (hb2.cell (p := ⟨w.heap.size, 3, none⟩) hTl).trans s3, (hb2.cell (p := ⟨w.heap.size, 4, none⟩) hTl).trans s4, (hb2.cell (p := ⟨g', o' + k, none⟩) hSl).trans s5⟩
    clear HS0 CAx
    refine ⟨HS2.out, ?_⟩
    try simp only [Act.put]
    refine wpAnyH_take (i := 7) (v := ?v7) rfl (by kernel_rfl) (by kernel_rfl) (by kernel_rfl) (fun _ _ _ h => h) (.inl ⟨by kernel_rfl, ?y7⟩) HS2.out ?_
    case y7 =>
      rintro w' ⟨s0, s1, s2, s3, s4, s5⟩
      go_simp
      first | done | with_reducible rfl | rfl
    try simp only [Act.put]
    refine held_done (by kernel_rfl) ?_
    go_simp
    go_wp2_with fail
    have hb2' : Below wr.heap.size wr w2 := ((Below.refl _ wr).drew).trans hb2
    have hB1 : Below w1.heap.size w1 w2 := HBR.out.trans (Below.mono hb2' HBR.out.size)
    have hO2 : Own w1.heap.size u7 M w2 u7 w2 := Own.refl (own_belowS (show wr.ownsRow w1.heap.size 29 2 u7 M.length (pv M) from HOd.out) hb2' (Nat.le_refl _))
    have HOwn := Lib.hid (fun l v wx (h : Own w1.heap.size u7 l w2 v wx) => Own.below h hB1 hO2.1)
    have hgr : ∀ q, u7.ownBlock = some q → q < T := fun q h => by
      have h1 := (HLT.out q h).2
      have h2 : wr.heap.size ≤ T := hTl2
      omega
    have HGR := Lib.hid hgr
    have HBO := Lib.hid (fun u I J l wx h0 h1 h2 h3 h5 => hBo.out u I J l w2 wx h0 h1 h2 h3 hb2' h5)
    have HWI : Hid (wayL a b n m = wayL a b (f + L) J ++ M.reverse) := by
      show _ = _
      rw [HWy.out, HN1.out]
    have HPT := Lib.hid hPt
    clear hgr hB1 hb2 hb2' hPt hBo HN1 HWy HOd HLT HBR hTl2 hSl hcl hkl hkK hJp hTl HTR HS2
    go_loopw [7, 8, 12] (fun v j i wr => BiRelWkG a b n m f L w1.heap.size u7 w2 v j i wr) (fun _ j i _ => (RowKit.intOf i).toNat + (RowKit.intOf j).toNat)
    case atStart => exact ⟨f + L, J, M, rfl, by omega, Nat.le_refl _, rfl, hJ, hMl, HWI.out, hO2⟩
    case round =>
      clear hO2 HWI hJ hMl
      obtain ⟨I, J, l', rfl, hfI, hIL, rfl, hJ, hMl, HWy, hO⟩ := hrel
      obtain ⟨hL1, hL2⟩ := HLb.out
      by_cases hIf : I = f
      · subst hIf
        have R := Lib.hid (HBO.out _ _ _ _ _ (.inl rfl) hJ hMl HWy.out hO)
        clear hO HWy HBO HOwn
        go_wp2_with fail
        go_roundw
        case rel => exact R.out
        case measure => first | omega | (simp [RowKit.intOf] <;> omega)
      have hIf' : (f : Int) < (I : Int) := by omega
      by_cases hJ0 : J = 0
      · subst hJ0
        have R := Lib.hid (HBO.out _ _ _ _ _ (.inr rfl) hJ hMl HWy.out hO)
        clear hO HWy HBO HOwn
        go_wp2_with fail
        go_roundw
        case rel => exact R.out
        case measure => first | omega | (simp [RowKit.intOf] <;> omega)
      have hJp : (0 : Int) < (J : Int) := by omega
      obtain ⟨i2, hI2⟩ : ∃ i2, I = f + i2 + 1 := ⟨I - f - 1, by omega⟩
      obtain ⟨X, hX⟩ : ∃ X, i2 + 1 = X := ⟨_, rfl⟩
      obtain ⟨I1, hI1'⟩ : ∃ I1, f + i2 = I1 := ⟨_, rfl⟩
      obtain ⟨j, hJj⟩ : ∃ j, J = j + 1 := ⟨J - 1, by omega⟩
      have hIi : I = I1 + 1 := by omega
      have z1 : (I : Int) - (f : Int) = (X : Int) := by omega
      have z2 : (X : Int) - 1 = (i2 : Int) := by omega
      have z3 : (J : Int) - 1 = (j : Int) := by omega
      have z4 : (I : Int) - 1 = (I1 : Int) := by omega
      have hiL : i2 < L := by omega
      have hfI1 : f ≤ I1 := by omega
      have hXb : X ≤ 1048576 := by omega
      have hIb : I ≤ 1048576 := by omega
      have hJb : J ≤ 1048576 := by omega
      have hI1n : I1 < n := by omega
      have hjm : j < m := by omega
      have hBw := HOwn.out _ _ _ hO
      obtain ⟨Vv, hcV, A', c', x, rfl, q1, q2, q3, q4, q5, q6, _⟩ := (HPT.out.grown hO.2.1 HGR.out).get (Nat.le_refl _) (i := i2) hiL
      have eB : btI x (j : Int) = vB a b (I1 + 1) j := by
        unfold btI
        rw [decide_eq_true (show (0 : Int) ≤ (j : Int) by omega), Bool.true_and, Int.toNat_natCast, q5, ← hIi, hI2]
        exact HRA.out _ _ hjm
      have CG := pget A' W c' (j : Int) x wr q3 hWl q1 q2 (i64_small (by omega)) q6 q4
      rw [eB] at CG
      have HW' := Lib.hid HWy.out
      have hlt1 := hI1n
      rw [← hn] at hlt1
      have hlt2 := hjm
      rw [← hm] at hlt2
      have HX0 : Hid (a[I1]? = some a[I1]) := List.getElem?_eq_getElem hlt1
      have HY0 : Hid (b[j]? = some b[j]) := List.getElem?_eq_getElem hlt2
      have HII := Lib.hid hIi
      have HJJ := Lib.hid hJj
      clear eB q1 q2 q3 q4 q5 q6 hI2 HWy hIi hJj hX hI1'
      cases hvb : vB a b (I1 + 1) j with
      | true =>
        rw [hvb] at CG
        go_wp2_with fail
        refine CG.mono ?_
        rintro y w3 ⟨rfl, hb3⟩
        have R := Lib.hid (bi_stay HII.out HJJ.out hvb hfI hIL hJ hMl HW'.out (hO.call hb3))
        clear CG hO hBw hb3 hcV HW' HOwn HBO
        go_wp2_with fail
        go_roundw
        case rel => exact R.out
        case measure => first | omega | (simp [RowKit.intOf] <;> omega)
      | false =>
        rw [hvb] at CG
        go_wp2_with fail
        refine CG.mono ?_
        rintro y w3 ⟨rfl, hb3⟩
        have hO3 := hO.call hb3
        have hB3 := HOwn.out _ _ _ hO3
        obtain ⟨_, c1, c2, _, _⟩ := (hT.below hB3).cells
        obtain ⟨ga, oa, rfl, ca⟩ := (hI1.2.2.below hB3).int hlt1
        obtain ⟨gb, ob, rfl, cb⟩ := (h21.below hB3).int hlt2
        have HAx := Lib.hid (HAl.out I1 j _ _ HX0.out HY0.out)
        have hsz3 := hB3.size
        generalize a[I1] = x0 at *
        generalize b[j] = y0 at *
        have t1 : IntKind.i64.wrap ((I : Int) - 1) = (I1 : Int) := by rw [z4]; exact IntWalk.i64_in _ (by omega)
        have t2 : IntKind.i64.wrap ((J : Int) - 1) = (j : Int) := by rw [z3]; exact IntWalk.i64_in _ (by omega)
        have hvb' := Lib.hid hvb
        have hMl' : l'.length ≤ 1048576 := by omega
        clear CG hO hBw hb3 hcV HOwn HBO hB3 hvb HX0 HY0 hlt1 hlt2
        by_cases hxy : x0 = y0
        · subst hxy
          have hal : Hid (alikeAt a b I1 j = true) := by show _ = _; rw [HAx.out]; simp
          clear HAx
          go_wp2_with fail
          go_quiet (fail)
          have hO4 := hO3.drewN nq
          have hB4 := show w1.heap.size ≤ (w3.drewN nq).heap.size from hsz3
          clear hO3 hsz3 c1 c2 ca cb
          generalize w3.drewN nq = wy at *
          go_wp2_with (at_builtin; refine wpList_append_own_at _ rfl (.tmp 82) (.tmp 86) 22 rfl w1.heap.size 29 i0 (.agg #[.int .i64 0, .int .i64 0]) 2 16 Try.underlying22 hi0 hz0 hz1 hz2 rfl (by decide) _ _ _ rfl (hO4.1.alloc _) ⟨wy.heap.size, 0, none⟩ 1 1 [_, _] rfl rfl (pair_new _ _ _ _) (one_pair _ _) (by unfold maxLen; omega) (by omega) (by simp; omega) ?_)
          intro v' w' r1 r2 _ r3
          have R := Lib.hid (bi_pair HII.out HJJ.out hvb'.out hal.out hfI1 hIL hJ hMl HW'.out ((hO4.alloc _).step (own_app r1 r2 (by simpa using r3))))
          clear r1 r2 r3 hO4 HW'
          go_wp2_with fail
          go_roundw
          case rel => exact R.out
          case measure => first | omega | (simp [RowKit.intOf] <;> omega)
        · have hal : Hid (alikeAt a b I1 j = false) := by show _ = _; rw [HAx.out]; simpa using hxy
          have R := Lib.hid (fun q => bi_up HII.out HJJ.out hvb'.out hal.out hfI1 hIL hJ hMl HW'.out (hO3.drewN q))
          clear HAx hO3 HW' hal
          go_wp2_with fail
          go_quiet (fail)
          have R' := Lib.hid (R.out nq)
          clear R c1 c2 ca cb
          generalize w3.drewN nq = wy at *
          go_wp2_with fail
          go_roundw
          case rel => exact R'.out
          case measure => first | omega | (simp [RowKit.intOf] <;> omega)

end Go.Proofs.Ytncbhnmhaoblaaa
