/-
  Words for memory, of whatever program: a row of cells that can be read, a byte slice, a list of byte slices.
-/
import Derived.WalkKit
import Derived.WalkSpells
import Derived.WalkLawsBesides
import Derived.Below
import Derived.Laws.OwnMore
import Derived.Laws.CopyOwn
import Derived.Laws.AppendOwnNone
import Derived.Laws.BytesArg
import Derived.Deep.Draws
import Derived.Lib.Hide
namespace Go.Proofs.Ytdkcgehjokdnoaa
open Go.RowKit

theorem below_drewN {B : Nat} {a w : World} (h : Below B a w) (n : Nat) : Below B a (w.drewN n) := ⟨h.os, h.tape, h.output, h.size, h.block⟩

/-- The cells us lie at A, one behind the other (nothing is said where there are none). -/
def Row (w : World) (A : Option Addr) (us : List Value) : Prop :=
  us ≠ [] → ∃ g o, A = some ⟨g, o, none⟩ ∧ ∀ (i : Nat) u, us[i]? = some u → w.cell? ⟨g, o + i, none⟩ = some u

theorem Row.nil (w : World) (A : Option Addr) : Row w A [] := fun h => absurd rfl h

theorem Row.at_ {w : World} {A : Option Addr} {us : List Value} (h : Row w A us) (k : Nat) (hk : k < us.length) :
    ∃ g o, A = some ⟨g, o, none⟩ ∧ w.cell? ⟨g, o + k, none⟩ = some us[k] := by
  obtain ⟨g, o, e, hc⟩ := h (by intro e; simp [e] at hk)
  exact ⟨g, o, e, hc k _ (List.getElem?_eq_getElem hk)⟩

/-- Nothing that was there has turned: the row is still there. -/
theorem Row.below {w w' : World} {A : Option Addr} {us : List Value} (h : Row w A us) (hb : Below w.heap.size w w') : Row w' A us := fun hne => by
  obtain ⟨g, o, e, hc⟩ := h hne
  refine ⟨g, o, e, fun i u hu => ?_⟩
  have hx := hc i u hu
  exact (hb.cell (p := ⟨g, o + i, none⟩) (World.block_lt_of_cell? w _ hx)).trans hx

theorem Row.cells {w w' : World} {A : Option Addr} {us : List Value} (h : Row w A us) (hk : ∀ a u, w.cell? a = some u → w'.cell? a = some u) : Row w' A us := fun hne => by
  obtain ⟨g, o, e, hc⟩ := h hne
  exact ⟨g, o, e, fun i u hu => hk _ _ (hc i u hu)⟩

theorem Row.cut {w : World} {A : Option Addr} {us : List Value} (h : Row w A us) (lo hi cap : Nat) (hlo : lo ≤ hi) (hhi : hi ≤ us.length) (hcap : us.length ≤ cap) :
    Row w (if cap = lo then A else A.map (·.add lo)) ((us.drop lo).take (hi - lo)) := fun hne => by
  have hlt : lo < hi := by
    rcases Nat.lt_or_ge lo hi with hx | hx
    · exact hx
    · exact absurd (by rw [show hi - lo = 0 by omega, List.take_zero]) hne
  obtain ⟨g, o, e, hc⟩ := h (by intro e; rw [e] at hhi; simp at hhi; omega)
  subst e
  rw [if_neg (by omega)]
  refine ⟨g, o + lo, by simp [Addr.add_lit], fun i u hu => ?_⟩
  rw [List.getElem?_take] at hu
  split at hu
  · rw [List.getElem?_drop] at hu
    have := hc (lo + i) u hu
    rwa [← Nat.add_assoc] at this
  · cases hu

theorem Row.of_own {w : World} {base : Nat} {e : TypeId} {A : Option Addr} {n c : Nat} {us : List Value} (h : w.ownsRow base e 1 (.slice A n c) n us) : Row w A us := fun hne => by
  rcases h.2 with ⟨_, h0⟩ | ⟨g, cap, cur, hv, _⟩
  · exact absurd (List.eq_nil_of_length_eq_zero (by rw [h.1, h0])) hne
  · have hA : A = some ⟨g, 0, none⟩ := by injection hv
    subst hA
    refine ⟨g, 0, rfl, fun i u hu => ?_⟩
    have := h.cells (g := g) rfl i u hu
    simpa [Addr.add_lit] using this

/-- A new block, of cells that are known. -/
theorem Row.new (w : World) (cs : List Value) (t : TypeId) (mk : Nat × Nat) : Row (w.alloc (.cells cs.toArray t mk)) (some ⟨w.heap.size, 0, none⟩) cs := fun _ =>
  ⟨w.heap.size, 0, rfl, fun i u hu => by
    have hh : (w.alloc (.cells cs.toArray t mk)).heap[w.heap.size]? = some (.cells cs.toArray t mk) := by
      show (w.heap.push (.cells cs.toArray t mk))[w.heap.size]? = _
      simp
    simp only [World.cell?, hh]
    simpa using hu⟩

/-- Bytes as values. -/
def bv (l : List UInt8) : List Value := l.map fun b => Value.int .u8 (b.toNat : Int)
theorem bv_length (l : List UInt8) : (bv l).length = l.length := by simp [bv]
theorem bv_get {l : List UInt8} {k : Nat} (hk : k < l.length) : (bv l)[k]'(by simpa [bv] using hk) = .int .u8 (l[k].toNat : Int) := by simp [bv]
theorem bv_one (l : List UInt8) : ∀ u ∈ bv l, u.oneCell' = true := by
  intro u hu
  obtain ⟨_, _, rfl⟩ := List.mem_map.1 hu
  rfl
theorem bv_cut (l : List UInt8) (lo n : Nat) : ((bv l).drop lo).take n = bv ((l.drop lo).take n) := by simp [bv, List.map_take, List.map_drop]
theorem bv_append (l r : List UInt8) : bv (l ++ r) = bv l ++ bv r := by simp [bv]

/-- A cell of a byte row, as the walk asks for it. -/
theorem Row.byte {w : World} {A : Option Addr} {l : List UInt8} (h : Row w A (bv l)) {k : Nat} (hk : k < l.length) :
    ∃ g o, A = some ⟨g, o, none⟩ ∧ w.cell? ⟨g, o + k, none⟩ = some (.int .u8 (l[k].toNat : Int)) := by
  obtain ⟨g, o, e, hc⟩ := h.at_ k (by simpa [bv] using hk)
  exact ⟨g, o, e, by rw [hc, bv_get hk]⟩

theorem Row.piece {w : World} {A : Option Addr} {l : List UInt8} (h : Row w A (bv l)) (f k : Nat) (hk : f + k ≤ l.length) :
    Row w (Option.map (fun x => x.add f) A) (bv ((l.drop f).take k)) := by
  have := h.cut f (f + k) (l.length + f + 1) (by omega) (by rw [bv_length]; omega) (by rw [bv_length]; omega)
  rw [if_neg (by omega), bv_cut, show f + k - f = k by omega] at this
  exact this

/-- v is a byte slice that reads l. -/
def BS (w : World) (v : Value) (l : List UInt8) : Prop := ∃ A c, v = .slice A l.length c ∧ l.length ≤ c ∧ c ≤ maxLen ∧ Row w A (bv l) ∧ (A = none → c = 0)
theorem BS.below {w w' : World} {v : Value} {l : List UInt8} (h : BS w v l) (hb : Below w.heap.size w w') : BS w' v l := by
  obtain ⟨A, c, rfl, h1, h2, h3, h4⟩ := h
  exact ⟨A, c, rfl, h1, h2, h3.below hb, h4⟩
theorem BS.cells {w w' : World} {v : Value} {l : List UInt8} (h : BS w v l) (hk : ∀ a u, w.cell? a = some u → w'.cell? a = some u) : BS w' v l := by
  obtain ⟨A, c, rfl, h1, h2, h3, h4⟩ := h
  exact ⟨A, c, rfl, h1, h2, h3.cells hk, h4⟩

/-- The values vs are byte slices that read ls. -/
def BSs (w : World) (vs : List Value) (ls : List (List UInt8)) : Prop := vs.length = ls.length ∧ ∀ (i : Nat) v l, vs[i]? = some v → ls[i]? = some l → BS w v l
theorem BSs.below {w w' : World} {vs : List Value} {ls : List (List UInt8)} (h : BSs w vs ls) (hb : Below w.heap.size w w') : BSs w' vs ls :=
  ⟨h.1, fun i v l hv hl => (h.2 i v l hv hl).below hb⟩
theorem BSs.cells {w w' : World} {vs : List Value} {ls : List (List UInt8)} (h : BSs w vs ls) (hk : ∀ a u, w.cell? a = some u → w'.cell? a = some u) : BSs w' vs ls :=
  ⟨h.1, fun i v l hv hl => (h.2 i v l hv hl).cells hk⟩
theorem BSs.nil (w : World) : BSs w [] [] := ⟨rfl, fun i v l hv => by simp at hv⟩
theorem BSs.snoc {w : World} {vs : List Value} {ls : List (List UInt8)} {v : Value} {l : List UInt8} (h : BSs w vs ls) (hv : BS w v l) : BSs w (vs ++ [v]) (ls ++ [l]) := by
  refine ⟨by simp [h.1], fun i u m hu hm => ?_⟩
  rcases Nat.lt_or_ge i vs.length with hi | hi
  · rw [List.getElem?_append_left hi] at hu
    rw [List.getElem?_append_left (by rw [← h.1]; exact hi)] at hm
    exact h.2 i u m hu hm
  · rw [List.getElem?_append_right hi] at hu
    rw [List.getElem?_append_right (by rw [← h.1]; exact hi)] at hm
    have e0 : i - vs.length = 0 := by
      have := (List.getElem?_eq_some_iff.1 hu).1
      simpa using this
    rw [e0] at hu
    rw [← h.1, e0] at hm
    simp at hu hm
    subst hu; subst hm
    exact hv
theorem BSs.get {w : World} {vs : List Value} {ls : List (List UInt8)} (h : BSs w vs ls) {k : Nat} (hk : k < ls.length) : BS w (vs[k]'(by rw [h.1]; exact hk)) ls[k] :=
  h.2 k _ _ (List.getElem?_eq_getElem _) (List.getElem?_eq_getElem _)

theorem BSs.append {w : World} {vs us : List Value} {ls ms : List (List UInt8)} (h : BSs w vs ls) (h' : BSs w us ms) : BSs w (vs ++ us) (ls ++ ms) := by
  refine ⟨by simp [h.1, h'.1], fun i u m hu hm => ?_⟩
  rcases Nat.lt_or_ge i vs.length with hi | hi
  · rw [List.getElem?_append_left hi] at hu
    rw [List.getElem?_append_left (by rw [← h.1]; exact hi)] at hm
    exact h.2 i u m hu hm
  · rw [List.getElem?_append_right hi] at hu
    rw [List.getElem?_append_right (by rw [← h.1]; exact hi), ← h.1] at hm
    exact h'.2 _ u m hu hm
theorem BSs.one {w : World} {vs : List Value} {ls : List (List UInt8)} (h : BSs w vs ls) : ∀ u ∈ vs, u.oneCell' = true := by
  intro u hu
  obtain ⟨i, hi, rfl⟩ := List.mem_iff_getElem.1 hu
  obtain ⟨A, c, e, _⟩ := h.2 i _ _ (List.getElem?_eq_getElem hi) (List.getElem?_eq_getElem (by rw [← h.1]; exact hi))
  rw [e]
  rfl

/-- A slice's cell that holds a byte slice, as the walk asks for it. -/
theorem BSs.cell {w : World} {A : Option Addr} {vs : List Value} {ls : List (List UInt8)} (hr : Row w A vs) (h : BSs w vs ls) {k : Nat} (hk : k < ls.length) :
    ∃ g o A' c', A = some ⟨g, o, none⟩ ∧ w.cell? ⟨g, o + k, none⟩ = some (.slice A' ls[k].length c') ∧ ls[k].length ≤ c' ∧ c' ≤ maxLen ∧ Row w A' (bv ls[k]) ∧ (A' = none → c' = 0) := by
  obtain ⟨g, o, e, hc⟩ := hr.at_ k (by rw [h.1]; exact hk)
  obtain ⟨A', c', e', h1, h2, h3, h4⟩ := h.get hk
  exact ⟨g, o, A', c', e, by rw [hc, e'], h1, h2, h3, h4⟩

theorem Row.drewN {w : World} {A : Option Addr} {us : List Value} (h : Row w A us) (q : Nat) : Row (w.drewN q) A us := h
theorem BSs.drewN {w : World} {vs : List Value} {ls : List (List UInt8)} (h : BSs w vs ls) (q : Nat) : BSs (w.drewN q) vs ls := h

theorem foldl_push (l : List UInt8) : (l.map fun b => (b.toNat : Int)).foldl (fun r n => r.push (UInt8.ofNat n.toNat)) ByteArray.empty = ⟨l.toArray⟩ := by
  rw [foldl_push_bytes]
  have e : (l.map fun b => (b.toNat : Int)).map (fun n => UInt8.ofNat n.toNat) = l := by
    rw [List.map_map]
    conv => rhs; rw [← List.map_id l]
    apply List.map_congr_left
    intro x _
    simp
  rw [e]
  simp [ByteArray.empty, ByteArray.emptyWithCapacity]
  rfl

/-- string(b): the bytes that the slice reads. -/
theorem conv_any {P : Program} {w : World} {A : Option Addr} {l : List UInt8} {n : Nat} (hn : l.length = n) (hr : Row w A (bv l)) (src dst e : TypeId) (c : Nat) (hs : P.underlying src = some (.slice e)) (he : P.underlying e = some (.int .u8)) (hd : P.underlying dst = some .string) :
    (convert src dst (.slice A n c)).run P w = .ok (.string ⟨l.toArray⟩) w := by
  subst hn
  rw [run_convert_bytes_string w src dst e _ _ c hs he hd]
  have key : ∀ a : Addr, A = some a → (loadCells a l.length).run P w = .ok ((l.map fun b => (b.toNat : Int)).map (Value.int .u8)).toArray w := by
    intro a ha
    have := run_loadCells_list (P := P) w a (bv l) (fun j v hv => by
      obtain ⟨g, o, e', hc⟩ := hr (by intro e; rw [e] at hv; simp at hv)
      rw [ha] at e'
      cases e'
      rw [Addr.add_lit]
      exact hc j v hv)
    rw [bv_length] at this
    rw [this]
    simp [bv, List.map_map, Function.comp_def]
  cases A with
  | none =>
    have hl : l = [] := by
      by_cases h : bv l = []
      · simpa [bv] using h
      · obtain ⟨g, o, e', _⟩ := hr h
        cases e'
    subst hl
    simp [Conv.bytesToString, ByteArray.empty, ByteArray.emptyWithCapacity]
    first | rfl | skip
  | some a =>
    rw [run_bytesToString w a _ c _ (key a rfl), foldl_push]

/-- An operation that is wanted (its guard, if it has one, says yes). -/
theorem wpList_want {P : Program} {w : World} {ops : Array Oper} {rest : List Oper} {o : Oper} {a : Act} {Q : Exit → Act → World → Prop} (hw : Region.wanted o (yielded ops a.tmps) = true)
    (h : ∀ K : Act → World → Prop, (∀ a w, wpList P ops Q rest a w → K a w) → o.wp P a w K Q) : wpList P ops Q (o :: rest) a w :=
  wpList_step fun K hK => by rw [if_pos hw]; exact h K hK

/-- append(v, x...): v a row of the call's own, x a row that can be read: nil, empty or not; guarded or not. -/
theorem append_row {P : Program} {w : World} {ops : Array Oper} {rest : List Oper} {o : Oper} {a : Act} {Q : Exit → Act → World → Prop} (hw : Region.wanted o (yielded ops a.tmps) = true) (s x : Operand) (t : TypeId)
    (ho : o.op = .call { callee := .builtin .append, args := #[s, x], argTypes := #[t, t] })
    (base : Nat) (e : TypeId) (i : TypeInfo) (z : Value) (bytes : Nat) (ht : P.underlying t = some (.slice e)) (hi : P.info? e = some i) (hz : i.zero = some z) (hsize : i.size = 1) (hby : i.bytes = bytes) (hzs : z.cells.size = 1)
    (v : Value) (n : Nat) (xs : List Value) (hs : a.eval s = v) (hown : w.ownsRow base e 1 v n xs)
    (ao : Option Addr) (m c : Nat) (news : List Value) (hx : a.eval x = .slice ao m c) (hl : news.length = m) (hr : Row w ao news) (hnil : ao = none → c = 0) (h1 : ∀ u ∈ news, u.oneCell' = true)
    (h63 : n + m ≤ maxLen) (hbytes : (n + m) * bytes ≤ 140737488355328) (hbase : base ≤ w.heap.size)
    (h : ∀ v' w', w'.ownsRow base e 1 v' (n + m) (xs ++ news) → w.grownBy w' v.ownBlock → wpList P ops Q rest (a.put o.dst v') w') : wpList P ops Q (o :: rest) a w := by
  refine wpList_want hw fun K hK => ?_
  cases ao with
  | some ad =>
    refine wp_append_own w s x t ho base e i z 1 bytes ht hi hz hsize hby hzs (by decide) v n xs hs hown ad m c news hx (by omega) (fun j u hu => ?_) h1 h63 hbytes hbase fun v' w' h2 h3 _ => hK _ _ (h v' w' h2 h3)
    obtain ⟨g, k, e', hc⟩ := hr (by intro e; rw [e] at hu; simp at hu)
    cases e'
    rw [Addr.add_lit]
    exact hc j u hu
  | none =>
    have hn : news = [] := by
      by_cases hne : news = []
      · exact hne
      · obtain ⟨g, k, e', _⟩ := hr hne
        cases e'
    subst hn
    have hm : m = 0 := by simpa using hl.symm
    subst hm
    have hc := hnil rfl
    subst hc
    have hrun := run_append_owned_none (P := P) (w := w) base t o.type e i 1 ht hi v n xs hown
    unfold Oper.wp
    simp [execOp, ho, resolve, invoke, builtin, hs, hx, hrun, Result.andThen]
    exact hK _ _ (h v w (by simpa using hown) (World.grownBy.refl _ _))

/-- A slice literal without elements. -/
theorem own_empty (w : World) (e : TypeId) : (w.alloc (.cells #[] e)).ownsRow w.heap.size e 1 (.slice (some ⟨w.heap.size, 0, none⟩) 0 0) 0 [] :=
  World.ownsRow_made w #[] 0 (Nat.le_refl _) (Nat.zero_le _) rfl

/-- All of it, one behind the other. (A name, so that the walk leaves it as it is.) -/
def joined (ls : List (List UInt8)) : List UInt8 := ls.flatten
theorem joined_take (ls : List (List UInt8)) (k : Nat) (hk : k < ls.length) : joined (ls.take (k + 1)) = joined (ls.take k) ++ ls[k] := by
  unfold joined
  rw [List.take_succ_eq_append_getElem hk, List.flatten_append]
  simp only [List.flatten_cons, List.flatten_nil, List.append_nil]
theorem joined_take_le (ls : List (List UInt8)) (k : Nat) : (joined (ls.take k)).length ≤ (joined ls).length := by
  have h : ls.flatten = (ls.take k).flatten ++ (ls.drop k).flatten := by rw [← List.flatten_append, List.take_append_drop]
  unfold joined
  rw [h, List.length_append]
  omega

end Go.Proofs.Ytdkcgehjokdnoaa
