/-
  Words for lists of lists of numbers in memory: read, and made row by row by appending.
-/
import Derived.Test.YtdkcgehjokdnoaaRefI
import Derived.Test.YtdkcgehjokdnoaaStep
import Derived.Deep.OwnRows
import Derived.Maps.AppendAt
namespace Go.Proofs.Ytdkcgehjokdnoaa
open Go.RowKit

/-- v is a list of numbers that reads l. -/
def IS (w : World) (v : Value) (l : List Int) : Prop := ∃ A c, v = .slice A l.length c ∧ l.length ≤ c ∧ c ≤ maxLen ∧ Row w A (iv l) ∧ (A = none → c = 0)
theorem IS.below {w w' : World} {v : Value} {l : List Int} (h : IS w v l) (hb : Below w.heap.size w w') : IS w' v l := by
  obtain ⟨A, c, rfl, h1, h2, h3, h4⟩ := h
  exact ⟨A, c, rfl, h1, h2, h3.below hb, h4⟩
theorem IS.of_own {w : World} {B : Nat} {e : TypeId} {v : Value} {l : List Int} (h : w.ownsRow B e 1 v l.length (iv l)) : IS w v l := by
  obtain ⟨A, c, rfl, h1, h2, h3, h4⟩ := own_slice h
  exact ⟨A, c, rfl, h1, h2, h3, h4⟩

/-- The values vs are lists of numbers that read ls. -/
def ISs (w : World) (vs : List Value) (ls : List (List Int)) : Prop := vs.length = ls.length ∧ ∀ (i : Nat) v l, vs[i]? = some v → ls[i]? = some l → IS w v l
theorem ISs.below {w w' : World} {vs : List Value} {ls : List (List Int)} (h : ISs w vs ls) (hb : Below w.heap.size w w') : ISs w' vs ls := ⟨h.1, fun i v l hv hl => (h.2 i v l hv hl).below hb⟩
theorem ISs.drawn {w w' : World} {vs : List Value} {ls : List (List Int)} {q : Nat} (hq : w' = w.drewN q) (h : ISs w vs ls) : ISs w' vs ls := by subst hq; exact h
theorem ISs.nil (w : World) : ISs w [] [] := ⟨rfl, fun i v l hv => by simp at hv⟩
theorem ISs.get {w : World} {vs : List Value} {ls : List (List Int)} (h : ISs w vs ls) {k : Nat} (hk : k < ls.length) : IS w (vs[k]'(by rw [h.1]; exact hk)) ls[k] :=
  h.2 k _ _ (List.getElem?_eq_getElem _) (List.getElem?_eq_getElem _)
/-- A cell that holds a list, as the walk asks for it. -/
theorem ISs.cell {w : World} {A : Option Addr} {vs : List Value} {ls : List (List Int)} (hr : Row w A vs) (h : ISs w vs ls) {k : Nat} (hk : k < ls.length) :
    ∃ g o A' c', A = some ⟨g, o, none⟩ ∧ w.cell? ⟨g, o + k, none⟩ = some (.slice A' ls[k].length c') ∧ ls[k].length ≤ c' ∧ c' ≤ maxLen ∧ Row w A' (iv ls[k]) ∧ (A' = none → c' = 0) := by
  obtain ⟨g, o, e, hc⟩ := hr.at_ k (by rw [h.1]; exact hk)
  obtain ⟨A', c', e', h1, h2, h3, h4⟩ := h.get hk
  exact ⟨g, o, A', c', e, by rw [hc, e'], h1, h2, h3, h4⟩

/-- A list of lists, as a value. -/
def ILs (w : World) (v : Value) (ls : List (List Int)) : Prop := ∃ A c vs, v = .slice A ls.length c ∧ ls.length ≤ c ∧ c ≤ maxLen ∧ Row w A vs ∧ ISs w vs ls ∧ (A = none → c = 0)
theorem ILs.below {w w' : World} {v : Value} {ls : List (List Int)} (h : ILs w v ls) (hb : Below w.heap.size w w') : ILs w' v ls := by
  obtain ⟨A, c, vs, rfl, h1, h2, h3, h4, h5⟩ := h
  exact ⟨A, c, vs, rfl, h1, h2, h3.below hb, h4.below hb, h5⟩
theorem ILs.nil (w : World) : ILs w (.slice none 0 0) [] := ⟨none, 0, [], rfl, Nat.le_refl _, Nat.zero_le _, Row.nil _ _, ISs.nil _, fun _ => rfl⟩

/-- Block T holds n lists of the call's own, each in a block of its own behind T, or nil. -/
def Gro (w : World) (T n : Nat) (F : Nat → Value) (L : Nat → List Int) : Prop :=
  w.rowIs T 22 n F ∧ (∀ i, i < n → w.ownsRow (T + 1) 3 1 (F i) (L i).length (iv (L i))) ∧ (∀ i j, i < n → j < n → i ≠ j → (F i).ownBlock = none ∨ (F i).ownBlock ≠ (F j).ownBlock)
theorem Gro.lt {w : World} {T n : Nat} {F : Nat → Value} {L : Nat → List Int} (h : Gro w T n F L) : T < w.heap.size := h.1.lt
theorem gro_start (w : World) (n : Nat) : Gro (w.alloc (.cells (madeCells #[.slice none 0 0] n) 22)) w.heap.size n (fun _ => .slice none 0 0) (fun _ => []) :=
  ⟨World.rowIs_made w _ _ _, fun _ _ => World.ownsRow_nil _ _ _ _, fun _ _ _ _ _ => .inl rfl⟩
theorem Gro.drew {w : World} {T n : Nat} {F : Nat → Value} {L : Nat → List Int} (h : Gro w T n F L) : Gro w.drew T n F L := h
theorem Gro.alloc {w : World} {T n : Nat} {F : Nat → Value} {L : Nat → List Int} (h : Gro w T n F L) (o : Obj) : Gro (w.alloc o) T n F L := ⟨h.1.alloc o, fun i hi => (h.2.1 i hi).alloc o, h.2.2⟩

/-- One of them is grown, and put back. -/
theorem gro_put {w w' : World} {T n x : Nat} {F : Nat → Value} {L : Nat → List Int} {l : List Int} {v' : Value} (h : Gro w T n F L) (hx : x < n) (hown : w'.ownsRow (T + 1) 3 1 v' l.length (iv l)) (hg : w.grownBy w' (F x).ownBlock)
    (hat : v'.ownBlock = (F x).ownBlock ∨ v'.ownBlock = some w.heap.size) : Gro (w'.setCell ⟨T, x, none⟩ v') T n (fun i => if i = x then v' else F i) (fun i => if i = x then l else L i) := by
  obtain ⟨h1, h2, h3⟩ := h
  have hT : some T ≠ (F x).ownBlock := fun e => by
    have := ((h2 x hx).lt T e.symm).1
    omega
  have k1 : w'.rowIs T 22 n F := h1.of_block (hg.block T h1.lt hT)
  refine ⟨k1.set x v', fun i hi => ?_, fun i j hi hj hij => ?_⟩
  · by_cases e : i = x
    · subst e
      simp only [if_true]
      exact ownsRow_setCell_below hown (by show T < T + 1; omega) _
    · simp only [if_neg e]
      exact ownsRow_setCell_below ((h2 i hi).kept hg (h3 i x hi hx e)) (by show T < T + 1; omega) _
  · by_cases e : i = x
    · subst e
      simp only [if_true]
      rw [if_neg (fun e => hij e.symm)]
      rcases hat with hat | hat
      · rw [hat]
        exact h3 i j hi hj hij
      · right
        rw [hat]
        intro e
        have := ((h2 j hj).lt _ e.symm).2
        omega
    · simp only [if_neg e]
      by_cases e' : j = x
      · subst e'
        simp only [if_true]
        rcases hat with hat | hat
        · rw [hat]
          exact h3 i j hi hj hij
        · right
          rw [hat]
          intro e
          have := ((h2 i hi).lt _ e).2
          omega
      · simp only [if_neg e']
        exact h3 i j hi hj hij
theorem Gro.congr {w : World} {T n : Nat} {F : Nat → Value} {L L' : Nat → List Int} (h : Gro w T n F L) (e : ∀ i, i < n → L i = L' i) : Gro w T n F L' := ⟨h.1, fun i hi => by rw [← e i hi]; exact h.2.1 i hi, h.2.2⟩
theorem Gro.read {w : World} {T n : Nat} {F : Nat → Value} {L : Nat → List Int} (h : Gro w T n F L) (hn : n ≤ maxLen) : ILs w (.slice (some ⟨T, 0, none⟩) n n) ((List.range n).map L) := by
  refine ⟨some ⟨T, 0, none⟩, n, (List.range n).map F, by simp, by simp, hn, fun _ => ⟨T, 0, rfl, fun i u hu => ?_⟩, ⟨by simp, fun i v l hv hl => ?_⟩, fun e => by cases e⟩
  · rw [List.getElem?_map] at hu
    obtain ⟨k, hk, rfl⟩ := Option.map_eq_some_iff.1 hu
    obtain ⟨hi, e⟩ := List.getElem?_eq_some_iff.1 hk
    simp only [List.length_range] at hi
    rw [List.getElem_range] at e
    subst e
    rw [Nat.zero_add]
    exact h.1.cell hi
  · rw [List.getElem?_map] at hv hl
    obtain ⟨k, hk, rfl⟩ := Option.map_eq_some_iff.1 hv
    obtain ⟨k', hk', rfl⟩ := Option.map_eq_some_iff.1 hl
    obtain ⟨hi, e⟩ := List.getElem?_eq_some_iff.1 hk
    obtain ⟨_, e'⟩ := List.getElem?_eq_some_iff.1 hk'
    simp only [List.length_range] at hi
    rw [List.getElem_range] at e e'
    subst e
    subst e'
    exact IS.of_own (h.2.1 i hi)

/-- append(v, x...) as one step of a region that draws, and where the row then lies. -/
theorem step_own_at {P : Program} {w : World} {ops : Array Oper} {o : Oper} {a : Act} {K : Act → World → Prop} {Q : Exit → Act → World → Prop} {E : Prop} (hgd : o.guard = none) (s x : Operand) (t : TypeId)
    (ho : o.op = .call { callee := .builtin .append, args := #[s, x], argTypes := #[t, t] })
    (base : Nat) (e : TypeId) (i : TypeInfo) (z : Value) (size bytes : Nat) (ht : P.underlying t = some (.slice e)) (hi : P.info? e = some i) (hz : i.zero = some z) (hsize : i.size = size) (hby : i.bytes = bytes) (hzs : z.cells.size = size) (hsz : 0 < size)
    (v : Value) (n : Nat) (xs : List Value) (hs : a.eval s = v) (hown : w.ownsRow base e size v n xs)
    (ad : Addr) (m c : Nat) (news : List Value) (hx : a.eval x = .slice (some ad) m c) (hl : news.length = m * size) (hnews : ∀ j u, news[j]? = some u → w.cell? (ad.add j) = some u) (h1 : ∀ u ∈ news, u.oneCell' = true)
    (h63 : n + m ≤ maxLen) (hbytes : (n + m) * bytes ≤ 140737488355328) (hbase : base ≤ w.heap.size)
    (h : ∀ v' w', w'.ownsRow base e size v' (n + m) (xs ++ news) → w.grownBy w' v.ownBlock → (v'.ownBlock = v.ownBlock ∨ v'.ownBlock = some w.heap.size) → K (a.put o.dst v') w') : if Region.wanted o (yielded ops a.tmps) = true then o.wp P a w K Q else E := by
  have hw : Region.wanted o (yielded ops a.tmps) = true := by simp [Region.wanted, hgd]
  rw [if_pos hw]
  obtain ⟨v', w', hr, h2, h3, _, h5⟩ := run_append_own_at (P := P) w base t o.type e i z size bytes ht hi hz hsize hby hzs hsz v n xs hown ad m c news hl hnews h1 h63 hbytes hbase
  unfold Oper.wp execOp
  simp only [ho, resolve, invoke, builtin, Sem.run_bind, Sem.run_pure, Result.andThen_ok, List.map_toArray, List.map_cons, List.map_nil, hs, hx, hr]
  exact h v' w' h2 h3 h5

end Go.Proofs.Ytdkcgehjokdnoaa
