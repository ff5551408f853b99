/-
  Words and contracts that the proof leans on.
-/
import Derived.Test.YtejpbjglfjhjkaaM2
import Derived.Deep.RegionLaw
namespace Go.Proofs.Ytejpbjglfjhjkaa
open Go.RowKit

theorem Row.take {w : World} {A : Option Addr} {us : List Value} (h : Row w A us) (k : Nat) : Row w A (us.take k) := fun hne => by
  obtain ⟨g, o, e, hc⟩ := h (by intro e; rw [e] at hne; simp at hne)
  refine ⟨g, o, e, fun i u hu => hc i u ?_⟩
  rw [List.getElem?_take] at hu
  split at hu
  · exact hu
  · cases hu
theorem Row.drop {w : World} {A : Option Addr} {us : List Value} (h : Row w A us) (k : Nat) : Row w (Option.map (fun x => x.add k) A) (us.drop k) := fun hne => by
  obtain ⟨g, o, e, hc⟩ := h (by intro e; rw [e] at hne; simp at hne)
  subst e
  refine ⟨g, o + k, by simp [Addr.add_lit], fun i u hu => ?_⟩
  rw [List.getElem?_drop] at hu
  have := hc (k + i) u hu
  rwa [← Nat.add_assoc] at this

theorem Row.alloc {w : World} {A : Option Addr} {us : List Value} (h : Row w A us) (o : Obj) : Row (w.alloc o) A us := h.below ((Below.refl _ _).alloc (Nat.le_refl _) o)
theorem Row.drew {w : World} {A : Option Addr} {us : List Value} (h : Row w A us) : Row w.drew A us := h
theorem Row.grown {w w' : World} {A : Option Addr} {us : List Value} {b : Option Nat} (h : Row w A us) (hg : w.grownBy w' b) (hne : ∀ a, A = some a → some a.block ≠ b) : Row w' A us := fun hn => by
  obtain ⟨g, o, e, hc⟩ := h hn
  exact ⟨g, o, e, fun i u hu => hg.cell (hc i u hu) (show some g ≠ b from hne ⟨g, o, none⟩ e)⟩
theorem below_drew {B : Nat} {a w : World} (h : Below B a w) : Below B a w.drew := below_drewN h 1

/-- append(v, x...) of whatever elements, as one step of a region that draws. -/
theorem step_own {P : Program} {w : World} {ops : Array Oper} {o : Oper} {a : Act} {K : Act → World → Prop} {Q : Exit → Act → World → Prop} {E : Prop} (hgd : o.guard = none) (s x : Operand) (t : TypeId)
    (ho : o.op = .call { callee := .builtin .append, args := #[s, x], argTypes := #[t, t] })
    (base : Nat) (e : TypeId) (i : TypeInfo) (z : Value) (size bytes : Nat) (ht : P.underlying t = some (.slice e)) (hi : P.info? e = some i) (hz : i.zero = some z) (hsize : i.size = size) (hby : i.bytes = bytes) (hzs : z.cells.size = size) (hsz : 0 < size)
    (v : Value) (n : Nat) (xs : List Value) (hs : a.eval s = v) (hown : w.ownsRow base e size v n xs)
    (ad : Addr) (m c : Nat) (news : List Value) (hx : a.eval x = .slice (some ad) m c) (hl : news.length = m * size) (hnews : ∀ j u, news[j]? = some u → w.cell? (ad.add j) = some u) (h1 : ∀ u ∈ news, u.oneCell' = true)
    (h63 : n + m ≤ maxLen) (hbytes : (n + m) * bytes ≤ 140737488355328) (hbase : base ≤ w.heap.size)
    (h : ∀ v' w', w'.ownsRow base e size v' (n + m) (xs ++ news) → w.grownBy w' v.ownBlock → K (a.put o.dst v') w') : if Region.wanted o (yielded ops a.tmps) = true then o.wp P a w K Q else E := by
  have hw : Region.wanted o (yielded ops a.tmps) = true := by simp [Region.wanted, hgd]
  rw [if_pos hw]
  exact wp_append_own w s x t ho base e i z size bytes ht hi hz hsize hby hzs hsz v n xs hs hown ad m c news hx hl hnews h1 h63 hbytes hbase fun v' w' h2 h3 _ => h v' w' h2 h3


end Go.Proofs.Ytejpbjglfjhjkaa

namespace Go.Proofs.Ytejpbjglfjhjkaa
open Go.RowKit

/-- An int64. -/
def I64 (n : Int) : Prop := -9223372036854775808 ≤ n ∧ n ≤ 9223372036854775807
theorem Yes.of {w w' : World} (h : Below w.heap.size w w') : Yes w (.returned (.bool true)) w' := ⟨rfl, h⟩
theorem below_drawn {w0 w w' : World} {B q : Nat} (hq : w' = w.drewN q) (h : Below B w0 w) : Below B w0 w' := by subst hq; exact below_drewN h q
theorem below_go {w w1 w2 : World} (h : Below w.heap.size w w1) (h2 : Below w1.heap.size w1 w2) : Below w.heap.size w w2 := h.trans (h2.mono h.size)
end Go.Proofs.Ytejpbjglfjhjkaa

namespace Go.Proofs.Ytejpbjglfjhjkaa
open Go.RowKit

theorem row_lit {w : World} (cs : List Value) (t : TypeId) {b : Nat} (hb : w.heap.size = b) : Row (w.alloc (.cells cs.toArray t)) (some ⟨b, 0, none⟩) cs := by
  subst hb
  exact Row.new w cs t (0, 0)
theorem below_of {w w' : World} {q : Nat} (h : w' = w.drewN q) : Below w.heap.size w w' := below_drawn h (Below.refl _ _)
theorem below_al {w w' : World} (h : Below w.heap.size w w') (o : Obj) : Below w.heap.size w (w'.alloc o) := h.alloc h.size o

/-- append(v, x...), of whatever cells an element has: v a row of the call's own, x a row that can be read: nil, empty or not; guarded or not. -/
theorem append_rowS {P : Program} {w : World} {ops : Array Oper} {rest : List Oper} {o : Oper} {a : Act} {Q : Exit → Act → World → Prop} (hw : Region.wanted o (yielded ops a.tmps) = true) (s x : Operand) (t : TypeId)
    (ho : o.op = .call { callee := .builtin .append, args := #[s, x], argTypes := #[t, t] })
    (base : Nat) (e : TypeId) (i : TypeInfo) (z : Value) (size bytes : Nat) (ht : P.underlying t = some (.slice e)) (hi : P.info? e = some i) (hz : i.zero = some z) (hsize : i.size = size) (hby : i.bytes = bytes) (hzs : z.cells.size = size) (hsz : 0 < size)
    (v : Value) (n : Nat) (xs : List Value) (hs : a.eval s = v) (hown : w.ownsRow base e size v n xs)
    (ao : Option Addr) (m c : Nat) (news : List Value) (hx : a.eval x = .slice ao m c) (hl : news.length = m * size) (hr : Row w ao news) (hnil : ao = none → c = 0) (h1 : ∀ u ∈ news, u.oneCell' = true)
    (h63 : n + m ≤ maxLen) (hbytes : (n + m) * bytes ≤ 140737488355328) (hbase : base ≤ w.heap.size)
    (h : ∀ v' w', w'.ownsRow base e size v' (n + m) (xs ++ news) → w.grownBy w' v.ownBlock → wpList P ops Q rest (a.put o.dst v') w') : wpList P ops Q (o :: rest) a w := by
  refine wpList_want hw fun K hK => ?_
  cases ao with
  | some ad =>
    refine wp_append_own w s x t ho base e i z size bytes ht hi hz hsize hby hzs hsz v n xs hs hown ad m c news hx hl (fun j u hu => ?_) h1 h63 hbytes hbase fun v' w' h2 h3 _ => hK _ _ (h v' w' h2 h3)
    obtain ⟨g, k, e', hc⟩ := hr (by intro e; rw [e] at hu; simp at hu)
    cases e'
    rw [Addr.add_lit]
    exact hc j u hu
  | none =>
    have hn : news = [] := by
      by_cases hne : news = []
      · exact hne
      · obtain ⟨g, k, e', _⟩ := hr hne
        cases e'
    subst hn
    have hm : m = 0 := by
      rcases Nat.mul_eq_zero.1 (show m * size = 0 by simpa using hl.symm) with h | h
      · exact h
      · omega
    subst hm
    have hc := hnil rfl
    subst hc
    have hrun := run_append_owned_none (P := P) (w := w) base t o.type e i size ht hi v n xs hown
    unfold Oper.wp
    simp [execOp, ho, resolve, invoke, builtin, hs, hx, hrun, Result.andThen]
    exact hK _ _ (h v w (by simpa using hown) (World.grownBy.refl _ _))
theorem own_emptyS (w : World) (e : TypeId) (sz : Nat) {B : Nat} (h : B ≤ w.heap.size) : (w.alloc (.cells #[] e)).ownsRow B e sz (.slice (some ⟨w.heap.size, 0, none⟩) 0 0) 0 [] := by
  refine ⟨by simp, .inr ⟨w.heap.size, 0, #[], rfl, h, ?_, Nat.le_refl _, Nat.zero_le _, by simp, by simp⟩⟩
  show (w.heap.push _)[w.heap.size]? = _
  simp

end Go.Proofs.Ytejpbjglfjhjkaa
