/-
  Words and contracts that the proof leans on.
-/
import Derived.WalkKit
import Derived.WalkSpells
import Derived.WalkLawsBesides
import Derived.Below
import Derived.Laws.OwnMore
import Derived.Laws.CopyOwn
import Derived.Laws.AppendOwnNone
import Derived.Laws.BytesArg
import Derived.Deep.Draws
import Derived.Lib.Hide
namespace Go.Proofs.Ythpinbmimgojnaa
open Go.RowKit

theorem below_drewN {B : Nat} {a w : World} (h : Below B a w) (n : Nat) : Below B a (w.drewN n) := ⟨h.os, h.tape, h.output, h.size, h.block⟩

/-- The cells us lie at A, one behind the other (nothing is said where there are none). -/
def Row (w : World) (A : Option Addr) (us : List Value) : Prop :=
  us ≠ [] → ∃ g o, A = some ⟨g, o, none⟩ ∧ ∀ (i : Nat) u, us[i]? = some u → w.cell? ⟨g, o + i, none⟩ = some u

theorem Row.nil (w : World) (A : Option Addr) : Row w A [] := fun h => absurd rfl h

theorem Row.at_ {w : World} {A : Option Addr} {us : List Value} (h : Row w A us) (k : Nat) (hk : k < us.length) :
    ∃ g o, A = some ⟨g, o, none⟩ ∧ w.cell? ⟨g, o + k, none⟩ = some us[k] := by
  obtain ⟨g, o, e, hc⟩ := h (by intro e; simp [e] at hk)
  exact ⟨g, o, e, hc k _ (List.getElem?_eq_getElem hk)⟩

/-- Nothing that was there has turned: the row is still there. -/
theorem Row.below {w w' : World} {A : Option Addr} {us : List Value} (h : Row w A us) (hb : Below w.heap.size w w') : Row w' A us := fun hne => by
  obtain ⟨g, o, e, hc⟩ := h hne
  refine ⟨g, o, e, fun i u hu => ?_⟩
  have hx := hc i u hu
  exact (hb.cell (p := ⟨g, o + i, none⟩) (World.block_lt_of_cell? w _ hx)).trans hx

theorem Row.cells {w w' : World} {A : Option Addr} {us : List Value} (h : Row w A us) (hk : ∀ a u, w.cell? a = some u → w'.cell? a = some u) : Row w' A us := fun hne => by
  obtain ⟨g, o, e, hc⟩ := h hne
  exact ⟨g, o, e, fun i u hu => hk _ _ (hc i u hu)⟩

theorem Row.cut {w : World} {A : Option Addr} {us : List Value} (h : Row w A us) (lo hi cap : Nat) (hlo : lo ≤ hi) (hhi : hi ≤ us.length) (hcap : us.length ≤ cap) :
    Row w (if cap = lo then A else A.map (·.add lo)) ((us.drop lo).take (hi - lo)) := fun hne => by
  have hlt : lo < hi := by
    rcases Nat.lt_or_ge lo hi with hx | hx
    · exact hx
    · exact absurd (by rw [show hi - lo = 0 by omega, List.take_zero]) hne
  obtain ⟨g, o, e, hc⟩ := h (by intro e; rw [e] at hhi; simp at hhi; omega)
  subst e
  rw [if_neg (by omega)]
  refine ⟨g, o + lo, by simp [Addr.add_lit], fun i u hu => ?_⟩
  rw [List.getElem?_take] at hu
  split at hu
  · rw [List.getElem?_drop] at hu
    have := hc (lo + i) u hu
    rwa [← Nat.add_assoc] at this
  · cases hu

theorem Row.of_own {w : World} {base : Nat} {e : TypeId} {A : Option Addr} {n c : Nat} {us : List Value} (h : w.ownsRow base e 1 (.slice A n c) n us) : Row w A us := fun hne => by
  rcases h.2 with ⟨_, h0⟩ | ⟨g, cap, cur, hv, _⟩
  · exact absurd (List.eq_nil_of_length_eq_zero (by rw [h.1, h0])) hne
  · have hA : A = some ⟨g, 0, none⟩ := by injection hv
    subst hA
    refine ⟨g, 0, rfl, fun i u hu => ?_⟩
    have := h.cells (g := g) rfl i u hu
    simpa [Addr.add_lit] using this

/-- A new block, of cells that are known. -/
theorem Row.new (w : World) (cs : List Value) (t : TypeId) (mk : Nat × Nat) : Row (w.alloc (.cells cs.toArray t mk)) (some ⟨w.heap.size, 0, none⟩) cs := fun _ =>
  ⟨w.heap.size, 0, rfl, fun i u hu => by
    have hh : (w.alloc (.cells cs.toArray t mk)).heap[w.heap.size]? = some (.cells cs.toArray t mk) := by
      show (w.heap.push (.cells cs.toArray t mk))[w.heap.size]? = _
      simp
    simp only [World.cell?, hh]
    simpa using hu⟩

/-- Bytes as values. -/
def bv (l : List UInt8) : List Value := l.map fun b => Value.int .u8 (b.toNat : Int)
theorem bv_length (l : List UInt8) : (bv l).length = l.length := by simp [bv]
theorem bv_get {l : List UInt8} {k : Nat} (hk : k < l.length) : (bv l)[k]'(by simpa [bv] using hk) = .int .u8 (l[k].toNat : Int) := by simp [bv]
theorem bv_one (l : List UInt8) : ∀ u ∈ bv l, u.oneCell' = true := by
  intro u hu
  obtain ⟨_, _, rfl⟩ := List.mem_map.1 hu
  rfl
theorem bv_cut (l : List UInt8) (lo n : Nat) : ((bv l).drop lo).take n = bv ((l.drop lo).take n) := by simp [bv, List.map_take, List.map_drop]
theorem bv_append (l r : List UInt8) : bv (l ++ r) = bv l ++ bv r := by simp [bv]

/-- A cell of a byte row, as the walk asks for it. -/
theorem Row.byte {w : World} {A : Option Addr} {l : List UInt8} (h : Row w A (bv l)) {k : Nat} (hk : k < l.length) :
    ∃ g o, A = some ⟨g, o, none⟩ ∧ w.cell? ⟨g, o + k, none⟩ = some (.int .u8 (l[k].toNat : Int)) := by
  obtain ⟨g, o, e, hc⟩ := h.at_ k (by simpa [bv] using hk)
  exact ⟨g, o, e, by rw [hc, bv_get hk]⟩

theorem Row.piece {w : World} {A : Option Addr} {l : List UInt8} (h : Row w A (bv l)) (f k : Nat) (hk : f + k ≤ l.length) :
    Row w (Option.map (fun x => x.add f) A) (bv ((l.drop f).take k)) := by
  have := h.cut f (f + k) (l.length + f + 1) (by omega) (by rw [bv_length]; omega) (by rw [bv_length]; omega)
  rw [if_neg (by omega), bv_cut, show f + k - f = k by omega] at this
  exact this

/-- v is a byte slice that reads l. -/
def BS (w : World) (v : Value) (l : List UInt8) : Prop := ∃ A c, v = .slice A l.length c ∧ l.length ≤ c ∧ c ≤ maxLen ∧ Row w A (bv l) ∧ (A = none → c = 0)
theorem BS.below {w w' : World} {v : Value} {l : List UInt8} (h : BS w v l) (hb : Below w.heap.size w w') : BS w' v l := by
  obtain ⟨A, c, rfl, h1, h2, h3, h4⟩ := h
  exact ⟨A, c, rfl, h1, h2, h3.below hb, h4⟩
theorem BS.cells {w w' : World} {v : Value} {l : List UInt8} (h : BS w v l) (hk : ∀ a u, w.cell? a = some u → w'.cell? a = some u) : BS w' v l := by
  obtain ⟨A, c, rfl, h1, h2, h3, h4⟩ := h
  exact ⟨A, c, rfl, h1, h2, h3.cells hk, h4⟩

/-- The values vs are byte slices that read ls. -/
def BSs (w : World) (vs : List Value) (ls : List (List UInt8)) : Prop := vs.length = ls.length ∧ ∀ (i : Nat) v l, vs[i]? = some v → ls[i]? = some l → BS w v l
theorem BSs.below {w w' : World} {vs : List Value} {ls : List (List UInt8)} (h : BSs w vs ls) (hb : Below w.heap.size w w') : BSs w' vs ls :=
  ⟨h.1, fun i v l hv hl => (h.2 i v l hv hl).below hb⟩
theorem BSs.cells {w w' : World} {vs : List Value} {ls : List (List UInt8)} (h : BSs w vs ls) (hk : ∀ a u, w.cell? a = some u → w'.cell? a = some u) : BSs w' vs ls :=
  ⟨h.1, fun i v l hv hl => (h.2 i v l hv hl).cells hk⟩
theorem BSs.nil (w : World) : BSs w [] [] := ⟨rfl, fun i v l hv => by simp at hv⟩
theorem BSs.snoc {w : World} {vs : List Value} {ls : List (List UInt8)} {v : Value} {l : List UInt8} (h : BSs w vs ls) (hv : BS w v l) : BSs w (vs ++ [v]) (ls ++ [l]) := by
  refine ⟨by simp [h.1], fun i u m hu hm => ?_⟩
  rcases Nat.lt_or_ge i vs.length with hi | hi
  · rw [List.getElem?_append_left hi] at hu
    rw [List.getElem?_append_left (by rw [← h.1]; exact hi)] at hm
    exact h.2 i u m hu hm
  · rw [List.getElem?_append_right hi] at hu
    rw [List.getElem?_append_right (by rw [← h.1]; exact hi)] at hm
    have e0 : i - vs.length = 0 := by
      have := (List.getElem?_eq_some_iff.1 hu).1
      simpa using this
    rw [e0] at hu
    rw [← h.1, e0] at hm
    simp at hu hm
    subst hu; subst hm
    exact hv
theorem BSs.get {w : World} {vs : List Value} {ls : List (List UInt8)} (h : BSs w vs ls) {k : Nat} (hk : k < ls.length) : BS w (vs[k]'(by rw [h.1]; exact hk)) ls[k] :=
  h.2 k _ _ (List.getElem?_eq_getElem _) (List.getElem?_eq_getElem _)

theorem BSs.append {w : World} {vs us : List Value} {ls ms : List (List UInt8)} (h : BSs w vs ls) (h' : BSs w us ms) : BSs w (vs ++ us) (ls ++ ms) := by
  refine ⟨by simp [h.1, h'.1], fun i u m hu hm => ?_⟩
  rcases Nat.lt_or_ge i vs.length with hi | hi
  · rw [List.getElem?_append_left hi] at hu
    rw [List.getElem?_append_left (by rw [← h.1]; exact hi)] at hm
    exact h.2 i u m hu hm
  · rw [List.getElem?_append_right hi] at hu
    rw [List.getElem?_append_right (by rw [← h.1]; exact hi), ← h.1] at hm
    exact h'.2 _ u m hu hm
theorem BSs.one {w : World} {vs : List Value} {ls : List (List UInt8)} (h : BSs w vs ls) : ∀ u ∈ vs, u.oneCell' = true := by
  intro u hu
  obtain ⟨i, hi, rfl⟩ := List.mem_iff_getElem.1 hu
  obtain ⟨A, c, e, _⟩ := h.2 i _ _ (List.getElem?_eq_getElem hi) (List.getElem?_eq_getElem (by rw [← h.1]; exact hi))
  rw [e]
  rfl

/-- A slice's cell that holds a byte slice, as the walk asks for it. -/
theorem BSs.cell {w : World} {A : Option Addr} {vs : List Value} {ls : List (List UInt8)} (hr : Row w A vs) (h : BSs w vs ls) {k : Nat} (hk : k < ls.length) :
    ∃ g o A' c', A = some ⟨g, o, none⟩ ∧ w.cell? ⟨g, o + k, none⟩ = some (.slice A' ls[k].length c') ∧ ls[k].length ≤ c' ∧ c' ≤ maxLen ∧ Row w A' (bv ls[k]) ∧ (A' = none → c' = 0) := by
  obtain ⟨g, o, e, hc⟩ := hr.at_ k (by rw [h.1]; exact hk)
  obtain ⟨A', c', e', h1, h2, h3, h4⟩ := h.get hk
  exact ⟨g, o, A', c', e, by rw [hc, e'], h1, h2, h3, h4⟩

theorem Row.drewN {w : World} {A : Option Addr} {us : List Value} (h : Row w A us) (q : Nat) : Row (w.drewN q) A us := h
theorem BSs.drewN {w : World} {vs : List Value} {ls : List (List UInt8)} (h : BSs w vs ls) (q : Nat) : BSs (w.drewN q) vs ls := h

theorem foldl_push (l : List UInt8) : (l.map fun b => (b.toNat : Int)).foldl (fun r n => r.push (UInt8.ofNat n.toNat)) ByteArray.empty = ⟨l.toArray⟩ := by
  rw [foldl_push_bytes]
  have e : (l.map fun b => (b.toNat : Int)).map (fun n => UInt8.ofNat n.toNat) = l := by
    rw [List.map_map]
    conv => rhs; rw [← List.map_id l]
    apply List.map_congr_left
    intro x _
    simp
  rw [e]
  simp [ByteArray.empty, ByteArray.emptyWithCapacity]
  rfl

/-- string(b): the bytes that the slice reads. -/
theorem conv_any {P : Program} {w : World} {A : Option Addr} {l : List UInt8} {n : Nat} (hn : l.length = n) (hr : Row w A (bv l)) (src dst e : TypeId) (c : Nat) (hs : P.underlying src = some (.slice e)) (he : P.underlying e = some (.int .u8)) (hd : P.underlying dst = some .string) :
    (convert src dst (.slice A n c)).run P w = .ok (.string ⟨l.toArray⟩) w := by
  subst hn
  rw [run_convert_bytes_string w src dst e _ _ c hs he hd]
  have key : ∀ a : Addr, A = some a → (loadCells a l.length).run P w = .ok ((l.map fun b => (b.toNat : Int)).map (Value.int .u8)).toArray w := by
    intro a ha
    have := run_loadCells_list (P := P) w a (bv l) (fun j v hv => by
      obtain ⟨g, o, e', hc⟩ := hr (by intro e; rw [e] at hv; simp at hv)
      rw [ha] at e'
      cases e'
      rw [Addr.add_lit]
      exact hc j v hv)
    rw [bv_length] at this
    rw [this]
    simp [bv, List.map_map, Function.comp_def]
  cases A with
  | none =>
    have hl : l = [] := by
      by_cases h : bv l = []
      · simpa [bv] using h
      · obtain ⟨g, o, e', _⟩ := hr h
        cases e'
    subst hl
    simp [Conv.bytesToString, ByteArray.empty, ByteArray.emptyWithCapacity]
    first | rfl | skip
  | some a =>
    rw [run_bytesToString w a _ c _ (key a rfl), foldl_push]

/-- An operation that is wanted (its guard, if it has one, says yes). -/
theorem wpList_want {P : Program} {w : World} {ops : Array Oper} {rest : List Oper} {o : Oper} {a : Act} {Q : Exit → Act → World → Prop} (hw : Region.wanted o (yielded ops a.tmps) = true)
    (h : ∀ K : Act → World → Prop, (∀ a w, wpList P ops Q rest a w → K a w) → o.wp P a w K Q) : wpList P ops Q (o :: rest) a w :=
  wpList_step fun K hK => by rw [if_pos hw]; exact h K hK

/-- append(v, x...): v a row of the call's own, x a row that can be read: nil, empty or not; guarded or not. -/
theorem append_row {P : Program} {w : World} {ops : Array Oper} {rest : List Oper} {o : Oper} {a : Act} {Q : Exit → Act → World → Prop} (hw : Region.wanted o (yielded ops a.tmps) = true) (s x : Operand) (t : TypeId)
    (ho : o.op = .call { callee := .builtin .append, args := #[s, x], argTypes := #[t, t] })
    (base : Nat) (e : TypeId) (i : TypeInfo) (z : Value) (bytes : Nat) (ht : P.underlying t = some (.slice e)) (hi : P.info? e = some i) (hz : i.zero = some z) (hsize : i.size = 1) (hby : i.bytes = bytes) (hzs : z.cells.size = 1)
    (v : Value) (n : Nat) (xs : List Value) (hs : a.eval s = v) (hown : w.ownsRow base e 1 v n xs)
    (ao : Option Addr) (m c : Nat) (news : List Value) (hx : a.eval x = .slice ao m c) (hl : news.length = m) (hr : Row w ao news) (hnil : ao = none → c = 0) (h1 : ∀ u ∈ news, u.oneCell' = true)
    (h63 : n + m ≤ maxLen) (hbytes : (n + m) * bytes ≤ 140737488355328) (hbase : base ≤ w.heap.size)
    (h : ∀ v' w', w'.ownsRow base e 1 v' (n + m) (xs ++ news) → w.grownBy w' v.ownBlock → wpList P ops Q rest (a.put o.dst v') w') : wpList P ops Q (o :: rest) a w := by
  refine wpList_want hw fun K hK => ?_
  cases ao with
  | some ad =>
    refine wp_append_own w s x t ho base e i z 1 bytes ht hi hz hsize hby hzs (by decide) v n xs hs hown ad m c news hx (by omega) (fun j u hu => ?_) h1 h63 hbytes hbase fun v' w' h2 h3 _ => hK _ _ (h v' w' h2 h3)
    obtain ⟨g, k, e', hc⟩ := hr (by intro e; rw [e] at hu; simp at hu)
    cases e'
    rw [Addr.add_lit]
    exact hc j u hu
  | none =>
    have hn : news = [] := by
      by_cases hne : news = []
      · exact hne
      · obtain ⟨g, k, e', _⟩ := hr hne
        cases e'
    subst hn
    have hm : m = 0 := by simpa using hl.symm
    subst hm
    have hc := hnil rfl
    subst hc
    have hrun := run_append_owned_none (P := P) (w := w) base t o.type e i 1 ht hi v n xs hown
    unfold Oper.wp
    simp [execOp, ho, resolve, invoke, builtin, hs, hx, hrun, Result.andThen]
    exact hK _ _ (h v w (by simpa using hown) (World.grownBy.refl _ _))

/-- A slice literal without elements. -/
theorem own_empty (w : World) (e : TypeId) : (w.alloc (.cells #[] e)).ownsRow w.heap.size e 1 (.slice (some ⟨w.heap.size, 0, none⟩) 0 0) 0 [] :=
  World.ownsRow_made w #[] 0 (Nat.le_refl _) (Nat.zero_le _) rfl

/-- All of it, one behind the other. (A name, so that the walk leaves it as it is.) -/
def joined (ls : List (List UInt8)) : List UInt8 := ls.flatten
theorem joined_take (ls : List (List UInt8)) (k : Nat) (hk : k < ls.length) : joined (ls.take (k + 1)) = joined (ls.take k) ++ ls[k] := by
  unfold joined
  rw [List.take_succ_eq_append_getElem hk, List.flatten_append]
  simp only [List.flatten_cons, List.flatten_nil, List.append_nil]
theorem joined_take_le (ls : List (List UInt8)) (k : Nat) : (joined (ls.take k)).length ≤ (joined ls).length := by
  have h : ls.flatten = (ls.take k).flatten ++ (ls.drop k).flatten := by rw [← List.flatten_append, List.take_append_drop]
  unfold joined
  rw [h, List.length_append]
  omega

end Go.Proofs.Ythpinbmimgojnaa

namespace Go.Proofs.Ythpinbmimgojnaa

/-- The square's table: E: what is alike; T, L: the steps of its top and of its left side. -/
def sqF (E : Nat → Nat → Bool) (T L : Nat → Nat) : Nat → Nat → Nat
  | 0, 0 => 0
  | 0, c + 1 => sqF E T L 0 c + T c
  | r + 1, 0 => sqF E T L r 0 + L r
  | r + 1, c + 1 => if E r c = true then sqF E T L r c + 1 else max (sqF E T L r (c + 1)) (sqF E T L (r + 1) c)
termination_by r c => (r, c)

section
variable {E : Nat → Nat → Bool} {T L : Nat → Nat}
theorem sq_00 : sqF E T L 0 0 = 0 := by rw [sqF]
theorem sq_0c (c : Nat) : sqF E T L 0 (c + 1) = sqF E T L 0 c + T c := by rw [sqF]
theorem sq_r0 (r : Nat) : sqF E T L (r + 1) 0 = sqF E T L r 0 + L r := by rw [sqF]
theorem sq_rc (r c : Nat) : sqF E T L (r + 1) (c + 1) = if E r c = true then sqF E T L r c + 1 else max (sqF E T L r (c + 1)) (sqF E T L (r + 1) c) := by rw [sqF]

theorem sq_cell {r c : Nat} (h : sqF E T L r c ≤ sqF E T L r (c + 1) ∧ sqF E T L r (c + 1) ≤ sqF E T L r c + 1) (v : sqF E T L r c ≤ sqF E T L (r + 1) c ∧ sqF E T L (r + 1) c ≤ sqF E T L r c + 1) :
    (sqF E T L (r + 1) c ≤ sqF E T L (r + 1) (c + 1) ∧ sqF E T L (r + 1) (c + 1) ≤ sqF E T L (r + 1) c + 1) ∧ sqF E T L r (c + 1) ≤ sqF E T L (r + 1) (c + 1) ∧ sqF E T L (r + 1) (c + 1) ≤ sqF E T L r (c + 1) + 1 := by
  rw [sq_rc]
  split <;> omega
theorem sq_row (hL : ∀ r, L r ≤ 1) {r : Nat} (h : ∀ c, sqF E T L r c ≤ sqF E T L r (c + 1) ∧ sqF E T L r (c + 1) ≤ sqF E T L r c + 1) : ∀ c, (sqF E T L r c ≤ sqF E T L (r + 1) c ∧ sqF E T L (r + 1) c ≤ sqF E T L r c + 1)
  | 0 => by rw [sq_r0]; have := hL r; omega
  | c + 1 => (sq_cell (h c) (sq_row hL h c)).2
/-- Steps along rows are 0 or 1. -/
theorem sq_h (hT : ∀ c, T c ≤ 1) (hL : ∀ r, L r ≤ 1) : ∀ r c, sqF E T L r c ≤ sqF E T L r (c + 1) ∧ sqF E T L r (c + 1) ≤ sqF E T L r c + 1
  | 0, c => by rw [sq_0c]; have := hT c; omega
  | r + 1, c => (sq_cell (sq_h hT hL r c) (sq_row hL (sq_h hT hL r) c)).1
/-- Steps along columns are 0 or 1. -/
theorem sq_v (hT : ∀ c, T c ≤ 1) (hL : ∀ r, L r ≤ 1) (r c : Nat) : sqF E T L r c ≤ sqF E T L (r + 1) c ∧ sqF E T L (r + 1) c ≤ sqF E T L r c + 1 := sq_row hL (sq_h hT hL r) c

/-- Turned over. -/
theorem sq_turn {E' : Nat → Nat → Bool} {n m : Nat} (h : ∀ r c, r < n → c < m → E' c r = E r c) : ∀ r c, r ≤ n → c ≤ m → sqF E' L T c r = sqF E T L r c
  | 0, 0, _, _ => by rw [sq_00, sq_00]
  | 0, c + 1, h1, h2 => by rw [sq_r0, sq_0c, sq_turn h 0 c h1 (by omega)]
  | r + 1, 0, h1, h2 => by rw [sq_0c, sq_r0, sq_turn h r 0 (by omega) h2]
  | r + 1, c + 1, h1, h2 => by
    rw [sq_rc, sq_rc, h r c (by omega) (by omega), sq_turn h r c (by omega) (by omega), sq_turn h r (c + 1) (by omega) h2, sq_turn h (r + 1) c h1 (by omega), Nat.max_comm]
termination_by r c => (r, c)
/-- With more that is alike it goes no less far. -/
theorem sq_more {E' : Nat → Nat → Bool} (hT : ∀ c, T c ≤ 1) (hL : ∀ r, L r ≤ 1) (h : ∀ r c, E r c = true → E' r c = true) : ∀ r c, sqF E T L r c ≤ sqF E' T L r c
  | 0, 0 => by rw [sq_00, sq_00]; exact Nat.le_refl _
  | 0, c + 1 => by rw [sq_0c, sq_0c]; have := sq_more hT hL h 0 c; omega
  | r + 1, 0 => by rw [sq_r0, sq_r0]; have := sq_more hT hL h r 0; omega
  | r + 1, c + 1 => by
    have h1 := sq_more hT hL h r c
    have h2 := sq_more hT hL h r (c + 1)
    have h3 := sq_more hT hL h (r + 1) c
    have b1 := sq_h (E := E) hT hL r c
    have b2 := sq_v (E := E) hT hL r c
    rw [sq_rc, sq_rc]
    by_cases e : E r c = true
    · rw [if_pos e, if_pos (h r c e)]; omega
    · rw [if_neg e]
      split <;> omega
termination_by r c => (r, c)
/-- Nothing alike, nothing at the left side: down it is as at the top. -/
theorem sq_through (hT : ∀ c, T c ≤ 1) {n m : Nat} (hE : ∀ r c, r < n → c < m → E r c = false) : ∀ r c, r ≤ n → c ≤ m → (∀ r, L r = 0) → sqF E T L r c = sqF E T L 0 c
  | 0, c, _, _, _ => rfl
  | r + 1, 0, h1, h2, hL => by rw [sq_r0, hL r, sq_through hT hE r 0 (by omega) h2 hL]; rfl
  | r + 1, c + 1, h1, h2, hL => by
    rw [sq_rc, if_neg (by rw [hE r c (by omega) (by omega)]; decide), sq_through hT hE r (c + 1) (by omega) h2 hL, sq_through hT hE (r + 1) c h1 (by omega) hL, sq_0c]
    omega
termination_by r c => (r, c)
theorem sq_congr {E' : Nat → Nat → Bool} {T' L' : Nat → Nat} {n m : Nat} (hE : ∀ r c, r < n → c < m → E r c = E' r c) (hT : ∀ c, c < m → T c = T' c) (hL : ∀ r, r < n → L r = L' r) : ∀ r c, r ≤ n → c ≤ m → sqF E T L r c = sqF E' T' L' r c
  | 0, 0, _, _ => by rw [sq_00, sq_00]
  | 0, c + 1, h1, h2 => by rw [sq_0c, sq_0c, sq_congr hE hT hL 0 c h1 (by omega), hT c (by omega)]
  | r + 1, 0, h1, h2 => by rw [sq_r0, sq_r0, sq_congr hE hT hL r 0 (by omega) h2, hL r (by omega)]
  | r + 1, c + 1, h1, h2 => by
    rw [sq_rc, sq_rc, hE r c (by omega) (by omega), sq_congr hE hT hL r c (by omega) (by omega), sq_congr hE hT hL r (c + 1) (by omega) h2, sq_congr hE hT hL (r + 1) c h1 (by omega)]
termination_by r c => (r, c)
end

/-- Bit k. -/
def bitN (x k : Nat) : Nat := x / 2 ^ k % 2
theorem bitN_le (x k : Nat) : bitN x k ≤ 1 := by unfold bitN; omega
theorem bitN_zero (k : Nat) : bitN 0 k = 0 := by unfold bitN; simp
theorem bitN_out {x t k : Nat} (h : x < 2 ^ t) (hk : t ≤ k) : bitN x k = 0 := by
  unfold bitN
  rw [Nat.div_eq_of_lt (Nat.lt_of_lt_of_le h (Nat.pow_le_pow_right (by decide) hk))]
/-- The number with told bits. -/
def num (f : Nat → Nat) : Nat → Nat
  | 0 => 0
  | k + 1 => num f k + f k * 2 ^ k
theorem num_lt {f : Nat → Nat} (h : ∀ k, f k ≤ 1) : ∀ t, num f t < 2 ^ t
  | 0 => by simp [num]
  | t + 1 => by
    have h1 := num_lt h t
    have h2 := Nat.mul_le_mul_right (2 ^ t) (h t)
    rw [num, Nat.pow_succ]
    omega
theorem num_bit {f : Nat → Nat} (h : ∀ k, f k ≤ 1) : ∀ t k, k < t → bitN (num f t) k = f k
  | 0, k, hk => by omega
  | t + 1, k, hk => by
    rw [num]
    by_cases e : k = t
    · subst e
      unfold bitN
      rw [Nat.add_mul_div_right _ _ (Nat.two_pow_pos k), Nat.div_eq_of_lt (num_lt h k)]
      have := h k
      omega
    · rw [← num_bit h t k (by omega)]
      unfold bitN
      have e1 : f t * 2 ^ t = f t * 2 ^ (t - k - 1) * 2 * 2 ^ k := by
        rw [Nat.mul_assoc, Nat.mul_assoc, ← Nat.pow_succ', ← Nat.pow_add, show t - k - 1 + k.succ = t by omega]
      rw [e1, Nat.add_mul_div_right _ _ (Nat.two_pow_pos k)]
      omega
theorem num_congr {f g : Nat → Nat} {t : Nat} (h : ∀ k, k < t → f k = g k) : num f t = num g t := by
  induction t with
  | zero => rfl
  | succ t ih => rw [num, num, ih fun k hk => h k (by omega), h t (by omega)]
theorem num_bits {x : Nat} : ∀ t, num (bitN x) t = x % 2 ^ t
  | 0 => by simp [num, Nat.mod_one]
  | t + 1 => by rw [num, num_bits t, Nat.mod_pow_succ, Nat.mul_comm]; rfl
theorem num_zero (t : Nat) : num (fun _ => 0) t = 0 := by
  induction t with
  | zero => rfl
  | succ t ih => rw [num, ih]; simp

/-- How many of the first k bits are 1. -/
def sumN (f : Nat → Nat) : Nat → Nat
  | 0 => 0
  | k + 1 => sumN f k + f k
theorem sumN_congr {f g : Nat → Nat} {t : Nat} (h : ∀ k, k < t → f k = g k) : sumN f t = sumN g t := by
  induction t with
  | zero => rfl
  | succ t ih => rw [sumN, sumN, ih fun k hk => h k (by omega), h t (by omega)]
theorem sumN_more {f : Nat → Nat} {t : Nat} (h : ∀ k, t ≤ k → f k = 0) : ∀ n, t ≤ n → sumN f n = sumN f t
  | 0, hn => by obtain rfl : t = 0 := by omega
                rfl
  | n + 1, hn => by
    by_cases e : t = n + 1
    · rw [e]
    · rw [sumN, sumN_more h n (by omega), h n (by omega)]
      rfl
def ones (x : Nat) : Nat := sumN (bitN x) 62
theorem ones_lt {x t : Nat} (h : x < 2 ^ t) (ht : t ≤ 62) : ones x = sumN (bitN x) t := sumN_more (fun _ hk => bitN_out h hk) 62 ht
theorem ones_num {f : Nat → Nat} {t : Nat} (h : ∀ k, f k ≤ 1) (ht : t ≤ 62) : ones (num f t) = sumN f t := by
  rw [ones_lt (num_lt h t) ht]
  exact sumN_congr fun k hk => num_bit h t k hk
theorem sumN_tele {f : Nat → Nat} (h : ∀ k, f k ≤ f (k + 1)) : ∀ t, f 0 + sumN (fun k => f (k + 1) - f k) t = f t
  | 0 => rfl
  | t + 1 => by have := sumN_tele h t; have := h t; rw [sumN]; omega

/-- A square by its numbers. -/
def sqN (t eq top left : Nat) : Nat → Nat → Nat := sqF (fun r c => decide (bitN eq (r * t + c) = 1)) (bitN top) (bitN left)
def botF (t eq top left : Nat) (c : Nat) : Nat := sqN t eq top left t (c + 1) - sqN t eq top left t c
def rgtF (t eq top left : Nat) (r : Nat) : Nat := sqN t eq top left (r + 1) t - sqN t eq top left r t
def botN (t eq top left : Nat) : Nat := num (botF t eq top left) t
def rgtN (t eq top left : Nat) : Nat := num (rgtF t eq top left) t
section
variable (t eq top left : Nat)
theorem sqN_h (r c : Nat) : sqN t eq top left r c ≤ sqN t eq top left r (c + 1) ∧ sqN t eq top left r (c + 1) ≤ sqN t eq top left r c + 1 := sq_h (fun _ => bitN_le _ _) (fun _ => bitN_le _ _) r c
theorem sqN_v (r c : Nat) : sqN t eq top left r c ≤ sqN t eq top left (r + 1) c ∧ sqN t eq top left (r + 1) c ≤ sqN t eq top left r c + 1 := sq_v (fun _ => bitN_le _ _) (fun _ => bitN_le _ _) r c
theorem botF_le (c : Nat) : botF t eq top left c ≤ 1 := by have := sqN_h t eq top left t c; unfold botF; omega
theorem rgtF_le (r : Nat) : rgtF t eq top left r ≤ 1 := by have := sqN_v t eq top left r t; unfold rgtF; omega
theorem botN_lt : botN t eq top left < 2 ^ t := num_lt (botF_le t eq top left) t
theorem rgtN_lt : rgtN t eq top left < 2 ^ t := num_lt (rgtF_le t eq top left) t
theorem sqN_top (c : Nat) : sqN t eq top left 0 c = sumN (bitN top) c := by
  induction c with
  | zero => exact sq_00
  | succ c ih => rw [sumN, ← ih]; exact sq_0c c
theorem sqN_left (r : Nat) : sqN t eq top left r 0 = sumN (bitN left) r := by
  induction r with
  | zero => exact sq_00
  | succ r ih => rw [sumN, ← ih]; exact sq_r0 r
theorem bot_sum : sumN (bitN left) t + sumN (botF t eq top left) t = sqN t eq top left t t := by
  rw [← sqN_left t eq top left]
  exact sumN_tele (f := fun c => sqN t eq top left t c) (fun c => (sqN_h t eq top left t c).1) t
theorem rgt_sum : sumN (bitN top) t + sumN (rgtF t eq top left) t = sqN t eq top left t t := by
  rw [← sqN_top t eq top left]
  exact sumN_tele (f := fun r => sqN t eq top left r t) (fun r => (sqN_v t eq top left r t).1) t
end
/-- P13.2. -/
theorem look_sums {t eq top left : Nat} (ht : t ≤ 62) (h1 : top < 2 ^ t) (h2 : left < 2 ^ t) : ones top + ones (rgtN t eq top left) = ones left + ones (botN t eq top left) := by
  unfold rgtN botN
  rw [ones_lt h1 ht, ones_lt h2 ht, ones_num (rgtF_le t eq top left) ht, ones_num (botF_le t eq top left) ht, rgt_sum, bot_sum]
theorem look_turn {t eq over top left : Nat} (h : ∀ r c, r < t → c < t → bitN over (c * t + r) = bitN eq (r * t + c)) : botN t eq top left = rgtN t over left top ∧ rgtN t eq top left = botN t over left top := by
  have key : ∀ r c, r ≤ t → c ≤ t → sqN t over left top c r = sqN t eq top left r c := sq_turn fun r c hr hc => by rw [h r c hr hc]
  constructor
  · refine num_congr fun k hk => ?_
    unfold botF rgtF
    rw [key t (k + 1) (Nat.le_refl _) (by omega), key t k (Nat.le_refl _) (by omega)]
  · refine num_congr fun k hk => ?_
    unfold botF rgtF
    rw [key (k + 1) t (by omega) (Nat.le_refl _), key k t (by omega) (Nat.le_refl _)]
theorem look_more {t eq more top left : Nat} (ht : t ≤ 62) (h : ∀ k, bitN eq k = 1 → bitN more k = 1) : ones (rgtN t eq top left) ≤ ones (rgtN t more top left) := by
  unfold rgtN
  rw [ones_num (rgtF_le t eq top left) ht, ones_num (rgtF_le t more top left) ht]
  have h1 := rgt_sum t eq top left
  have h2 := rgt_sum t more top left
  have h3 : sqN t eq top left t t ≤ sqN t more top left t t := sq_more (fun _ => bitN_le _ _) (fun _ => bitN_le _ _) (fun r c e => by simpa using h _ (by simpa using e)) t t
  omega
theorem look_none (t top : Nat) : rgtN t 0 top 0 = 0 := by
  unfold rgtN
  refine Eq.trans (num_congr (g := fun _ => 0) fun k hk => ?_) (num_zero t)
  have key : ∀ r c, r ≤ t → c ≤ t → sqN t 0 top 0 r c = sqN t 0 top 0 0 c := fun r c h1 h2 => sq_through (fun _ => bitN_le _ _) (fun r c _ _ => by simp [bitN_zero]) r c h1 h2 (fun _ => bitN_zero _)
  unfold rgtF
  rw [key (k + 1) t (by omega) (Nat.le_refl _), key k t (by omega) (Nat.le_refl _)]
  omega
theorem look_left {t left : Nat} (h : left < 2 ^ t) : rgtN t 0 0 left = left ∧ botN t 0 0 left = 0 := by
  have e := look_turn (t := t) (eq := 0) (over := 0) (top := 0) (left := left) (fun r c _ _ => by rw [bitN_zero, bitN_zero])
  have key : ∀ r c, r ≤ t → c ≤ t → sqN t 0 left 0 r c = sqN t 0 left 0 0 c := fun r c h1 h2 => sq_through (fun _ => bitN_le _ _) (fun r c _ _ => by simp [bitN_zero]) r c h1 h2 (fun _ => bitN_zero _)
  refine ⟨?_, by rw [e.1]; exact look_none t left⟩
  rw [e.2]
  unfold botN
  rw [show num (botF t 0 left 0) t = num (bitN left) t from num_congr fun k hk => by
    unfold botF
    rw [key t (k + 1) (Nat.le_refl _) (by omega), key t k (Nat.le_refl _) (by omega), sqN_top, sqN_top, sumN]
    omega, num_bits, Nat.mod_eq_of_lt h]

end Go.Proofs.Ythpinbmimgojnaa
