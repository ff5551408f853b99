/-
  Words and contracts that the proof leans on.
-/
import Derived.Test.YtmhnciljbdflcaaM3
import Derived.Test.YtmhnciljbdflcaaM8
import Derived.Deep.OwnRows
import Derived.Maps.AppendAt
namespace Go.Proofs.Ytmhnciljbdflcaa
open Go.RowKit

/-- v is a list of numbers that reads l. -/
def IS (w : World) (v : Value) (l : List Int) : Prop := ∃ A c, v = .slice A l.length c ∧ l.length ≤ c ∧ c ≤ maxLen ∧ Row w A (iv l) ∧ (A = none → c = 0)
theorem IS.below {w w' : World} {v : Value} {l : List Int} (h : IS w v l) (hb : Below w.heap.size w w') : IS w' v l := by
  obtain ⟨A, c, rfl, h1, h2, h3, h4⟩ := h
  exact ⟨A, c, rfl, h1, h2, h3.below hb, h4⟩
theorem IS.of_own {w : World} {B : Nat} {e : TypeId} {v : Value} {l : List Int} (h : w.ownsRow B e 1 v l.length (iv l)) : IS w v l := by
  obtain ⟨A, c, rfl, h1, h2, h3, h4⟩ := own_slice h
  exact ⟨A, c, rfl, h1, h2, h3, h4⟩

/-- The values vs are lists of numbers that read ls. -/
def ISs (w : World) (vs : List Value) (ls : List (List Int)) : Prop := vs.length = ls.length ∧ ∀ (i : Nat) v l, vs[i]? = some v → ls[i]? = some l → IS w v l
theorem ISs.below {w w' : World} {vs : List Value} {ls : List (List Int)} (h : ISs w vs ls) (hb : Below w.heap.size w w') : ISs w' vs ls := ⟨h.1, fun i v l hv hl => (h.2 i v l hv hl).below hb⟩
theorem ISs.drawn {w w' : World} {vs : List Value} {ls : List (List Int)} {q : Nat} (hq : w' = w.drewN q) (h : ISs w vs ls) : ISs w' vs ls := by subst hq; exact h
theorem ISs.nil (w : World) : ISs w [] [] := ⟨rfl, fun i v l hv => by simp at hv⟩
theorem ISs.get {w : World} {vs : List Value} {ls : List (List Int)} (h : ISs w vs ls) {k : Nat} (hk : k < ls.length) : IS w (vs[k]'(by rw [h.1]; exact hk)) ls[k] :=
  h.2 k _ _ (List.getElem?_eq_getElem _) (List.getElem?_eq_getElem _)
/-- A cell that holds a list, as the walk asks for it. -/
theorem ISs.cell {w : World} {A : Option Addr} {vs : List Value} {ls : List (List Int)} (hr : Row w A vs) (h : ISs w vs ls) {k : Nat} (hk : k < ls.length) :
    ∃ g o A' c', A = some ⟨g, o, none⟩ ∧ w.cell? ⟨g, o + k, none⟩ = some (.slice A' ls[k].length c') ∧ ls[k].length ≤ c' ∧ c' ≤ maxLen ∧ Row w A' (iv ls[k]) ∧ (A' = none → c' = 0) := by
  obtain ⟨g, o, e, hc⟩ := hr.at_ k (by rw [h.1]; exact hk)
  obtain ⟨A', c', e', h1, h2, h3, h4⟩ := h.get hk
  exact ⟨g, o, A', c', e, by rw [hc, e'], h1, h2, h3, h4⟩

/-- A list of lists, as a value. -/
def ILs (w : World) (v : Value) (ls : List (List Int)) : Prop := ∃ A c vs, v = .slice A ls.length c ∧ ls.length ≤ c ∧ c ≤ maxLen ∧ Row w A vs ∧ ISs w vs ls ∧ (A = none → c = 0)
theorem ILs.below {w w' : World} {v : Value} {ls : List (List Int)} (h : ILs w v ls) (hb : Below w.heap.size w w') : ILs w' v ls := by
  obtain ⟨A, c, vs, rfl, h1, h2, h3, h4, h5⟩ := h
  exact ⟨A, c, vs, rfl, h1, h2, h3.below hb, h4.below hb, h5⟩
theorem ILs.nil (w : World) : ILs w (.slice none 0 0) [] := ⟨none, 0, [], rfl, Nat.le_refl _, Nat.zero_le _, Row.nil _ _, ISs.nil _, fun _ => rfl⟩

/-- Block T holds n lists of the call's own, each in a block of its own behind T, or nil. -/
def Gro (w : World) (T n : Nat) (F : Nat → Value) (L : Nat → List Int) : Prop :=
  w.rowIs T 25 n F ∧ (∀ i, i < n → w.ownsRow (T + 1) 3 1 (F i) (L i).length (iv (L i))) ∧ (∀ i j, i < n → j < n → i ≠ j → (F i).ownBlock = none ∨ (F i).ownBlock ≠ (F j).ownBlock)
theorem Gro.lt {w : World} {T n : Nat} {F : Nat → Value} {L : Nat → List Int} (h : Gro w T n F L) : T < w.heap.size := h.1.lt
theorem gro_start (w : World) (n : Nat) : Gro (w.alloc (.cells (madeCells #[.slice none 0 0] n) 25)) w.heap.size n (fun _ => .slice none 0 0) (fun _ => []) :=
  ⟨World.rowIs_made w _ _ _, fun _ _ => World.ownsRow_nil _ _ _ _, fun _ _ _ _ _ => .inl rfl⟩
theorem Gro.drew {w : World} {T n : Nat} {F : Nat → Value} {L : Nat → List Int} (h : Gro w T n F L) : Gro w.drew T n F L := h
theorem Gro.alloc {w : World} {T n : Nat} {F : Nat → Value} {L : Nat → List Int} (h : Gro w T n F L) (o : Obj) : Gro (w.alloc o) T n F L := ⟨h.1.alloc o, fun i hi => (h.2.1 i hi).alloc o, h.2.2⟩

/-- One of them is grown, and put back. -/
theorem gro_put {w w' : World} {T n x : Nat} {F : Nat → Value} {L : Nat → List Int} {l : List Int} {v' : Value} (h : Gro w T n F L) (hx : x < n) (hown : w'.ownsRow (T + 1) 3 1 v' l.length (iv l)) (hg : w.grownBy w' (F x).ownBlock)
    (hat : v'.ownBlock = (F x).ownBlock ∨ v'.ownBlock = some w.heap.size) : Gro (w'.setCell ⟨T, x, none⟩ v') T n (fun i => if i = x then v' else F i) (fun i => if i = x then l else L i) := by
  obtain ⟨h1, h2, h3⟩ := h
  have hT : some T ≠ (F x).ownBlock := fun e => by
    have := ((h2 x hx).lt T e.symm).1
    omega
  have k1 : w'.rowIs T 25 n F := h1.of_block (hg.block T h1.lt hT)
  refine ⟨k1.set x v', fun i hi => ?_, fun i j hi hj hij => ?_⟩
  · by_cases e : i = x
    · subst e
      simp only [if_true]
      exact ownsRow_setCell_below hown (by show T < T + 1; omega) _
    · simp only [if_neg e]
      exact ownsRow_setCell_below ((h2 i hi).kept hg (h3 i x hi hx e)) (by show T < T + 1; omega) _
  · by_cases e : i = x
    · subst e
      simp only [if_true]
      rw [if_neg (fun e => hij e.symm)]
      rcases hat with hat | hat
      · rw [hat]
        exact h3 i j hi hj hij
      · right
        rw [hat]
        intro e
        have := ((h2 j hj).lt _ e.symm).2
        omega
    · simp only [if_neg e]
      by_cases e' : j = x
      · subst e'
        simp only [if_true]
        rcases hat with hat | hat
        · rw [hat]
          exact h3 i j hi hj hij
        · right
          rw [hat]
          intro e
          have := ((h2 i hi).lt _ e).2
          omega
      · simp only [if_neg e']
        exact h3 i j hi hj hij
theorem Gro.congr {w : World} {T n : Nat} {F : Nat → Value} {L L' : Nat → List Int} (h : Gro w T n F L) (e : ∀ i, i < n → L i = L' i) : Gro w T n F L' := ⟨h.1, fun i hi => by rw [← e i hi]; exact h.2.1 i hi, h.2.2⟩
theorem Gro.read {w : World} {T n : Nat} {F : Nat → Value} {L : Nat → List Int} (h : Gro w T n F L) (hn : n ≤ maxLen) : ILs w (.slice (some ⟨T, 0, none⟩) n n) ((List.range n).map L) := by
  refine ⟨some ⟨T, 0, none⟩, n, (List.range n).map F, by simp, by simp, hn, fun _ => ⟨T, 0, rfl, fun i u hu => ?_⟩, ⟨by simp, fun i v l hv hl => ?_⟩, fun e => by cases e⟩
  · rw [List.getElem?_map] at hu
    obtain ⟨k, hk, rfl⟩ := Option.map_eq_some_iff.1 hu
    obtain ⟨hi, e⟩ := List.getElem?_eq_some_iff.1 hk
    simp only [List.length_range] at hi
    rw [List.getElem_range] at e
    subst e
    rw [Nat.zero_add]
    exact h.1.cell hi
  · rw [List.getElem?_map] at hv hl
    obtain ⟨k, hk, rfl⟩ := Option.map_eq_some_iff.1 hv
    obtain ⟨k', hk', rfl⟩ := Option.map_eq_some_iff.1 hl
    obtain ⟨hi, e⟩ := List.getElem?_eq_some_iff.1 hk
    obtain ⟨_, e'⟩ := List.getElem?_eq_some_iff.1 hk'
    simp only [List.length_range] at hi
    rw [List.getElem_range] at e e'
    subst e
    subst e'
    exact IS.of_own (h.2.1 i hi)

/-- append(v, x...) as one step of a region that draws, and where the row then lies. -/
theorem step_own_at {P : Program} {w : World} {ops : Array Oper} {o : Oper} {a : Act} {K : Act → World → Prop} {Q : Exit → Act → World → Prop} {E : Prop} (hgd : o.guard = none) (s x : Operand) (t : TypeId)
    (ho : o.op = .call { callee := .builtin .append, args := #[s, x], argTypes := #[t, t] })
    (base : Nat) (e : TypeId) (i : TypeInfo) (z : Value) (size bytes : Nat) (ht : P.underlying t = some (.slice e)) (hi : P.info? e = some i) (hz : i.zero = some z) (hsize : i.size = size) (hby : i.bytes = bytes) (hzs : z.cells.size = size) (hsz : 0 < size)
    (v : Value) (n : Nat) (xs : List Value) (hs : a.eval s = v) (hown : w.ownsRow base e size v n xs)
    (ad : Addr) (m c : Nat) (news : List Value) (hx : a.eval x = .slice (some ad) m c) (hl : news.length = m * size) (hnews : ∀ j u, news[j]? = some u → w.cell? (ad.add j) = some u) (h1 : ∀ u ∈ news, u.oneCell' = true)
    (h63 : n + m ≤ maxLen) (hbytes : (n + m) * bytes ≤ 140737488355328) (hbase : base ≤ w.heap.size)
    (h : ∀ v' w', w'.ownsRow base e size v' (n + m) (xs ++ news) → w.grownBy w' v.ownBlock → (v'.ownBlock = v.ownBlock ∨ v'.ownBlock = some w.heap.size) → K (a.put o.dst v') w') : if Region.wanted o (yielded ops a.tmps) = true then o.wp P a w K Q else E := by
  have hw : Region.wanted o (yielded ops a.tmps) = true := by simp [Region.wanted, hgd]
  rw [if_pos hw]
  obtain ⟨v', w', hr, h2, h3, _, h5⟩ := run_append_own_at (P := P) w base t o.type e i z size bytes ht hi hz hsize hby hzs hsz v n xs hown ad m c news hl hnews h1 h63 hbytes hbase
  unfold Oper.wp execOp
  simp only [ho, resolve, invoke, builtin, Sem.run_bind, Sem.run_pure, Result.andThen_ok, List.map_toArray, List.map_cons, List.map_nil, hs, hx, hr]
  exact h v' w' h2 h3 h5

end Go.Proofs.Ytmhnciljbdflcaa

namespace Go.Proofs.Ytmhnciljbdflcaa
open Go.RowKit

theorem sameInts_quiet (A A' : Option Addr) (n n' c c' q : Nat) (ls ms : List Int) (w : World) (r : Bool) (hn : ls.length = n) (hn' : ms.length = n') (hb : n ≤ 9223372036854775807) (hr : Row w A (iv ls)) (hr' : Row w A' (iv ms)) (hv : decide (ls = ms) = r) :
    Calls Try.prog 16 #[.slice A n c, .slice A' n' c'] (w.drewN q) fun e w'' => e = .returned (.bool r) ∧ ∃ k, w'' = w.drewN k := by
  subst hv
  exact Calls.quiet_of (sameInts_any A A' n n' c c' ls ms (w.drewN q) hn hn' hb hr hr')

end Go.Proofs.Ytmhnciljbdflcaa

namespace Go.Proofs.Ytmhnciljbdflcaa
open Go.RowKit

/-- The places of k among the first t of b. -/
def plcT (b : List Int) (t k : Nat) : List Int := ((List.range t).filter fun j => decide (b[j]? = some (k : Int))).map fun j : Nat => (j : Int)
/-- The places of k. -/
def plc (b : List Int) (k : Nat) : List Int := plcT b b.length k
theorem plcT_zero (b : List Int) (k : Nat) : plcT b 0 k = [] := by simp [plcT]
theorem plcT_next {b : List Int} {t x k : Nat} (h : b[t]? = some (x : Int)) : plcT b (t + 1) k = if k = x then plcT b t x ++ [(t : Int)] else plcT b t k := by
  unfold plcT
  rw [List.range_succ, List.filter_append, List.map_append]
  by_cases e : k = x
  · subst e
    rw [if_pos rfl]
    simp [h]
  · rw [if_neg e]
    have hn : decide (b[t]? = some (k : Int)) = false := by
      rw [decide_eq_false_iff_not, h]
      intro e'
      apply e
      have := Option.some.inj e'
      omega
    simp [hn]
theorem plcT_length (b : List Int) (t k : Nat) : (plcT b t k).length ≤ t := by
  unfold plcT
  rw [List.length_map]
  exact Nat.le_trans (List.length_filter_le _ _) (by simp)

/-- Each number of b is below n. -/
def allN (n : Int) (b : List Int) : Bool := b.all fun x => decide (0 ≤ x ∧ x < n)
/-- n and b fit. -/
def fitsN (n : Int) (b : List Int) : Bool := decide (0 ≤ n ∧ n ≤ 1048576) && allN n b
theorem allN_snoc {n : Int} {b : List Int} {k : Nat} {x : Int} (h : allN n (b.take k) = true) (hc : b[k]? = some x) (hi : 0 ≤ x ∧ x < n) : allN n (b.take (k + 1)) = true := by
  obtain ⟨hk, e⟩ := List.getElem?_eq_some_iff.1 hc
  unfold allN at *
  rw [List.take_succ_eq_append_getElem hk, e, List.all_append, h]
  simp [hi]
theorem allN_no {n : Int} {b : List Int} {k : Nat} {x : Int} (hc : b[k]? = some x) (hi : ¬ (0 ≤ x ∧ x < n)) : allN n b = false := by
  unfold allN
  rw [List.all_eq_false]
  exact ⟨x, List.mem_of_getElem? hc, by simpa using hi⟩
theorem allN_end {n : Int} {b : List Int} {k : Nat} (h : allN n (b.take k) = true) (hk : b.length ≤ k) : allN n b = true := by
  rwa [List.take_of_length_le hk] at h
theorem allN_at {n : Int} {b : List Int} {k : Nat} {x : Int} (h : allN n b = true) (hc : b[k]? = some x) : 0 ≤ x ∧ x < n := by
  unfold allN at h
  rw [List.all_eq_true] at h
  simpa using h x (List.mem_of_getElem? hc)

/-- The lists, or none. -/
def placesU (n : Int) (b : List Int) : List (List Int) := if fitsN n b = true then (List.range n.toNat).map (plc b) else []
def placesE (n : Int) (b : List Int) : Int := if fitsN n b = true then 0 else 1

/-- What Places leaves. -/
def PlacesMade (n : Int) (b : List Int) (w : World) (e : Ending) (w' : World) : Prop :=
  ∃ v, e = .returned (.tuple #[v, .int .i64 (placesE n b)]) ∧ ILs w' v (placesU n b) ∧ Below w.heap.size w w'
theorem places_no {n : Int} {b : List Int} {w w' : World} (h : fitsN n b = false) (hb : Below w.heap.size w w') : PlacesMade n b w (.returned (.tuple #[.slice none 0 0, .int .i64 1])) w' := by
  refine ⟨.slice none 0 0, by simp [placesE, h], ?_, hb⟩
  have e : placesU n b = [] := by simp [placesU, h]
  rw [e]
  exact ILs.nil _
theorem places_yes {n : Nat} {b : List Int} {w w' : World} {T : Nat} {F : Nat → Value} (h : fitsN n b = true) (hn : n ≤ maxLen) (hg : Gro w' T n F (plc b)) (hb : Below w.heap.size w w') : PlacesMade n b w (.returned (.tuple #[.slice (some ⟨T, 0, none⟩) n n, .int .i64 0])) w' := by
  refine ⟨_, by simp [placesE, h]; rfl, ?_, hb⟩
  have e : placesU n b = (List.range n).map (plc b) := by simp [placesU, h]
  rw [e]
  exact hg.read hn

/-- The head of a round of the second loop. -/
def PlcRel (b : List Int) (n : Nat) (w : World) (i : Value) (wr : World) : Prop :=
  ∃ (k : Nat) (F : Nat → Value), k ≤ b.length ∧ i = .int .i64 k ∧ Gro wr w.heap.size n F (plcT b k) ∧ Below w.heap.size w wr

theorem Try.infoIntsP : (Try.prog.info? 25).map (fun i => (i.zero, i.size, i.bytes)) = some (some (.slice none 0 0), 1, 24) := by kernel_rfl

theorem plc_round {b : List Int} {n k x : Nat} {w w1 w2 : World} {F : Nat → Value} {v' : Value} {m : Nat} (hk : k < b.length) (hx : x < n) (hb : b[k]? = some (x : Int)) (hg : Gro w1 w.heap.size n F (plcT b k)) (hm : m = (plcT b k x).length + 1)
    (hown : w2.ownsRow (w.heap.size + 1) 3 1 v' m (iv (plcT b k x) ++ [.int .i64 (k : Int)])) (hgr : w1.grownBy w2 (F x).ownBlock) (hat : v'.ownBlock = (F x).ownBlock ∨ v'.ownBlock = some w1.heap.size) (hB : Below w.heap.size w w1) :
    PlcRel b n w (.int .i64 (k + 1 : Nat)) (w2.setCell ⟨w.heap.size, x, none⟩ v') := by
  have e : iv (plcT b k x) ++ [.int .i64 (k : Int)] = iv (plcT b k x ++ [(k : Int)]) := by rw [iv_append]; rfl
  rw [e, hm, show (plcT b k x).length + 1 = (plcT b k x ++ [(k : Int)]).length by simp] at hown
  have hG := gro_put hg hx hown hgr hat
  refine ⟨k + 1, _, by omega, rfl, hG.congr fun i _ => (plcT_next hb).symm, (hB.grown hgr hB.size fun q hq => ?_).setCell (Nat.le_refl _) _⟩
  have := ((hg.2.1 x hx).lt q hq).1
  omega

theorem plc_facts {W1 w2 : World} {T n x : Nat} {F : Nat → Value} {L : Nat → List Int} (hG : Gro W1 T n F L) (hx : x < n) (g2 : W1.grownBy w2 (F x).ownBlock) :
    w2.cell? ⟨T, x, none⟩ = some (F x) ∧ w2.frozen? ⟨T, x, none⟩ = false ∧ ∀ (p : Addr) v, p.block < T → W1.cell? p = some v → w2.cell? p = some v := by
  have hne : ∀ q, q ≤ T → some q ≠ (F x).ownBlock := fun q hq e => by
    have := ((hG.2.1 x hx).lt q e.symm).1
    omega
  have k1 : w2.rowIs T 25 n F := hG.1.of_block (g2.block T hG.1.lt (hne T (Nat.le_refl _)))
  exact ⟨k1.cell hx, k1.frozen x, fun p v hp h => g2.cell h (hne _ (by omega))⟩

end Go.Proofs.Ytmhnciljbdflcaa

namespace Go.Proofs.Ytmhnciljbdflcaa
open Go.RowKit

/-- The first one from f on. -/
def nxtL : List Int → Int → Int × Bool
  | [], _ => (0, false)
  | j :: l, f => if f ≤ j then (j, true) else nxtL l f
theorem nxtL_at {l : List Int} {k : Nat} {x f : Int} (h : l[k]? = some x) : nxtL (l.drop k) f = if f ≤ x then (x, true) else nxtL (l.drop (k + 1)) f := by
  obtain ⟨hk, e⟩ := List.getElem?_eq_some_iff.1 h
  rw [List.drop_eq_getElem_cons hk, e, nxtL]
theorem nxtL_end {l : List Int} {k : Nat} {f : Int} (h : l.length ≤ k) : nxtL (l.drop k) f = (0, false) := by rw [List.drop_eq_nil_of_le h, nxtL]
def nextU (ls : List (List Int)) (s f : Int) : Int × Bool := if 0 ≤ s ∧ s < (ls.length : Int) then nxtL (ls[s.toNat]?.getD []) f else (0, false)

/-- How many i and j are alike. -/
def alike (a b : List Int) : Nat := (a.map fun x => b.count x).sum
theorem alike_step {a b : List Int} {k : Nat} {x : Int} (h : a[k]? = some x) : alike (a.take (k + 1)) b = alike (a.take k) b + b.count x := by
  obtain ⟨hk, e⟩ := List.getElem?_eq_some_iff.1 h
  unfold alike
  rw [List.take_succ_eq_append_getElem hk, e]
  simp
theorem count_step {b : List Int} {k : Nat} {x y : Int} (h : b[k]? = some y) : (b.take (k + 1)).count x = (b.take k).count x + if x = y then 1 else 0 := by
  obtain ⟨hk, e⟩ := List.getElem?_eq_some_iff.1 h
  rw [List.take_succ_eq_append_getElem hk, e, List.count_append, List.count_singleton]
  by_cases e' : x = y
  · subst e'; simp
  · rw [if_neg e']
    have : (y == x) = false := by simpa using fun h : y = x => e' h.symm
    rw [this]
    simp
theorem alike_le (a b : List Int) (M : Nat) (hb : b.length ≤ M) : ∀ k, alike (a.take k) b ≤ k * M
  | 0 => by simp [alike]
  | k + 1 => by
    have ih := alike_le a b M hb k
    rw [Nat.succ_mul]
    by_cases hk : k < a.length
    · rw [alike_step (List.getElem?_eq_getElem hk)]
      have := List.count_le_length (a := a[k]) (l := b)
      omega
    · have h1 : a.take (k + 1) = a := List.take_of_length_le (by omega)
      have h2 : a.take k = a := List.take_of_length_le (by omega)
      rw [h1]
      rw [h2] at ih
      omega

def AlOut (a b : List Int) (w : World) (n i : Value) (wr : World) : Prop := ∃ k q : Nat, k ≤ a.length ∧ i = .int .i64 (k : Int) ∧ n = .int .i64 (alike (a.take k) b : Nat) ∧ wr = w.drewN q
def AlIn (a b : List Int) (x : Int) (k : Nat) (w : World) (n i : Value) (wr : World) : Prop := ∃ k' q : Nat, k' ≤ b.length ∧ i = .int .i64 (k' : Int) ∧ n = .int .i64 ((alike (a.take k) b + (b.take k').count x : Nat) : Int) ∧ wr = w.drewN q

set_option maxRecDepth 100000 in
set_option maxHeartbeats 1600000 in
theorem refAlike_any (A B : Option Addr) (n m c d : Nat) (a b : List Int) (w : World) (hn : a.length = n) (hm : b.length = m) (hb : n ≤ 1048576) (hb' : m ≤ 1048576) (h1 : Row w A (iv a)) (h2 : Row w B (iv b)) :
    Calls Try.prog 15 #[.slice A n c, .slice B m d] w fun e w' => e = .returned (.int .i64 (alike a b : Nat)) ∧ ∃ q, w' = w.drewN q := by
  subst hn
  subst hm
  go_enter Try.func15, Try.ntmps15
  go_wp2_with fail
  go_loopw [5, 6] (fun n i wr => AlOut a b w n i wr) (fun _ i _ => a.length - (intOf i).toNat)
  case atStart => exact ⟨0, 0, Nat.zero_le _, rfl, by simp [alike], rfl⟩
  case round =>
    obtain ⟨k, q, hk, rfl, rfl, hq⟩ := hrel
    by_cases hlt : k < a.length
    · have r1 : Row wr A (iv a) := by rw [hq]; exact h1
      have r2 : Row wr B (iv b) := by rw [hq]; exact h2
      have HQ := Lib.hid hq
      have hle := alike_le a b 1048576 hb' k
      have HX : Hid (a[k]? = some a[k]) := List.getElem?_eq_getElem hlt
      obtain ⟨g, o, rfl, hc⟩ := r1.int hlt
      generalize a[k] = x at *
      clear hq h1 h2 r1
      go_wp2_with fail
      go_loopw [5, 7] (fun n i wx => AlIn a b x k wr n i wx) (fun _ i _ => b.length - (intOf i).toNat)
      case atStart => exact ⟨0, 0, Nat.zero_le _, rfl, by simp, rfl⟩
      case round =>
        obtain ⟨k', q', hk', rfl, rfl, hq'⟩ := hrel
        subst hq'
        have hcl : (b.take k').count x ≤ k' := Nat.le_trans List.count_le_length (by simp; omega)
        by_cases hlt' : k' < b.length
        · obtain ⟨g', o', rfl, hd⟩ := r2.int hlt'
          have HY : Hid (b[k']? = some b[k']) := List.getElem?_eq_getElem hlt'
          generalize b[k'] = y at *
          clear r2
          have HC := Lib.hid (count_step (x := x) HY.out)
          by_cases heq : x = y
          · subst heq
            have HC1 : Hid ((b.take (k' + 1)).count x = (b.take k').count x + 1) := by show _ = _; rw [count_step HY.out, if_pos rfl]
            clear HC
            go_wp2_with fail
            go_quiet (fail)
            have R : AlIn a b x k wr (.int .i64 ((alike (a.take k) b + (b.take k').count x + 1 : Nat) : Int)) (.int .i64 (k' + 1 : Nat)) (wr.drewN (q' + nq)) := ⟨k' + 1, _, by omega, rfl, by rw [HC1.out]; rfl, rfl⟩
            go_wp2_with fail
            go_roundw
            case rel => first | exact R | ((repeat apply Exists.intro); exact ⟨R, rfl⟩)
            case measure => simp [intOf]; omega
          · have hz : (x == y) = false := by simpa using heq
            go_wp2_with fail
            go_quiet (fail)
            have R : AlIn a b x k wr (.int .i64 ((alike (a.take k) b + (b.take k').count x : Nat) : Int)) (.int .i64 (k' + 1 : Nat)) (wr.drewN (q' + nq)) := ⟨k' + 1, _, by omega, rfl, by rw [HC.out, if_neg heq]; rfl, rfl⟩
            clear heq
            go_wp2_with fail
            go_roundw
            case rel => first | exact R | ((repeat apply Exists.intro); exact ⟨R, rfl⟩)
            case measure => simp [intOf]; omega
        · have R : AlOut a b w (.int .i64 ((alike (a.take k) b + (b.take k').count x : Nat) : Int)) (.int .i64 (k + 1 : Nat)) (wr.drewN q') := ⟨k + 1, q + q', by omega, rfl, by rw [alike_step HX.out, List.take_of_length_le (by omega : b.length ≤ k')], by rw [HQ.out, World.drewN_drewN]⟩
          go_wp2_with fail
          go_roundw
          case rel => first | exact R | ((repeat apply Exists.intro); exact ⟨R, rfl⟩)
          case measure => simp [intOf]; omega
    · have hkl : k = a.length := by omega
      subst hkl
      rw [List.take_length]
      go_wp2_with fail
      go_ret
      exact ⟨rfl, q, by first | rfl | exact hq⟩

end Go.Proofs.Ytmhnciljbdflcaa
