/-
  The reference's Sort.
-/
import Derived.Test.YtjfiokcgmmmboaaNm2
import Derived.Deep.RegionLaw
import Derived.Deep.CutRange
namespace Go.Proofs.Ytjfiokcgmmmboaa
open Go.RowKit
open Go.Lib (compareBytes)

/-- What a call leaves that returns a new list of tokens, which themselves lay there before. -/
def MadeT (ds : List Bs) (w : World) (e : Ending) (w' : World) : Prop :=
  ∃ v xs, e = .returned v ∧ w'.ownsRow w.heap.size 24 1 v ds.length xs ∧ BSs w xs ds ∧ Below w.heap.size w w'

theorem refBelow_quiet (A B : Option Addr) (n m c d q : Nat) (l r : Bs) (w : World) (b : Bool) (hn : l.length = n) (hm : r.length = m) (hb : n ≤ 2147483648) (hb' : m ≤ 2147483648) (h1 : Row w A (bv l)) (h2 : Row w B (bv r)) (hv : lb l r = b) :
    Calls Try.prog 22 #[.slice A n c, .slice B m d] (w.drewN q) fun e w'' => e = .returned (.bool b) ∧ ∃ k, w'' = w.drewN k := by
  subst hv
  exact Calls.quiet_of (refBelow_any A B n m c d l r (w.drewN q) hn hm hb hb' h1 h2)
theorem refSame_quiet (A B : Option Addr) (n m c d q : Nat) (l r : Bs) (w : World) (b : Bool) (hn : l.length = n) (hm : r.length = m) (h1 : Row w A (bv l)) (h2 : Row w B (bv r)) (hv : decide (l = r) = b) :
    Calls Try.prog 21 #[.slice A n c, .slice B m d] (w.drewN q) fun e w'' => e = .returned (.bool b) ∧ ∃ k, w'' = w.drewN k := by
  subst hv
  exact (refSame_any A B n m c d l r (w.drewN q) hn hm h1 h2).mono fun e w' ⟨he, hw⟩ => ⟨he, q, hw.symm⟩

/-- append(v, x...) as one step of a region that draws. -/
theorem step_append_row {P : Program} {w : World} {ops : Array Oper} {o : Oper} {a : Act} {K : Act → World → Prop} {Q : Exit → Act → World → Prop} {E : Prop} (hgd : o.guard = none) (s x : Operand) (t : TypeId)
    (ho : o.op = .call { callee := .builtin .append, args := #[s, x], argTypes := #[t, t] })
    (base : Nat) (e : TypeId) (i : TypeInfo) (z : Value) (bytes : Nat) (ht : P.underlying t = some (.slice e)) (hi : P.info? e = some i) (hz : i.zero = some z) (hsize : i.size = 1) (hby : i.bytes = bytes) (hzs : z.cells.size = 1)
    (v : Value) (n : Nat) (xs : List Value) (hs : a.eval s = v) (hown : w.ownsRow base e 1 v n xs)
    (ao : Option Addr) (m c : Nat) (news : List Value) (hx : a.eval x = .slice ao m c) (hl : news.length = m) (hr : Row w ao news) (hnil : ao = none → c = 0) (h1 : ∀ u ∈ news, u.oneCell' = true)
    (h63 : n + m ≤ maxLen) (hbytes : (n + m) * bytes ≤ 140737488355328) (hbase : base ≤ w.heap.size)
    (h : ∀ v' w', w'.ownsRow base e 1 v' (n + m) (xs ++ news) → w.grownBy w' v.ownBlock → K (a.put o.dst v') w') : if Region.wanted o (yielded ops a.tmps) = true then o.wp P a w K Q else E := by
  have hw : Region.wanted o (yielded ops a.tmps) = true := by simp [Region.wanted, hgd]
  rw [if_pos hw]
  cases ao with
  | some ad =>
    refine wp_append_own w s x t ho base e i z 1 bytes ht hi hz hsize hby hzs (by decide) v n xs hs hown ad m c news hx (by omega) (fun j u hu => ?_) h1 h63 hbytes hbase fun v' w' h2 h3 _ => h v' w' h2 h3
    obtain ⟨g, k, e', hc⟩ := hr (by intro e; rw [e] at hu; simp at hu)
    cases e'
    rw [Addr.add_lit]
    exact hc j u hu
  | none =>
    have hn : news = [] := by
      by_cases hne : news = []
      · exact hne
      · obtain ⟨g, k, e', _⟩ := hr hne
        cases e'
    subst hn
    have hm : m = 0 := by simpa using hl.symm
    subst hm
    have hc := hnil rfl
    subst hc
    have hrun := run_append_owned_none (P := P) (w := w) base t o.type e i 1 ht hi v n xs hown
    unfold Oper.wp
    simp [execOp, ho, resolve, invoke, builtin, hs, hx, hrun, Result.andThen]
    exact h v w (by simpa using hown) (World.grownBy.refl _ _)

theorem Row.take {w : World} {A : Option Addr} {us : List Value} (h : Row w A us) (k : Nat) : Row w A (us.take k) := fun hne => by
  obtain ⟨g, o, e, hc⟩ := h (by intro e; rw [e] at hne; simp at hne)
  refine ⟨g, o, e, fun i u hu => hc i u ?_⟩
  rw [List.getElem?_take] at hu
  split at hu
  · exact hu
  · cases hu
theorem Row.drop {w : World} {A : Option Addr} {us : List Value} (h : Row w A us) (k : Nat) : Row w (Option.map (fun x => x.add k) A) (us.drop k) := fun hne => by
  obtain ⟨g, o, e, hc⟩ := h (by intro e; rw [e] at hne; simp at hne)
  subst e
  refine ⟨g, o + k, by simp [Addr.add_lit], fun i u hu => ?_⟩
  rw [List.getElem?_drop] at hu
  have := hc (k + i) u hu
  rwa [← Nat.add_assoc] at this

theorem Row.alloc {w : World} {A : Option Addr} {us : List Value} (h : Row w A us) (o : Obj) : Row (w.alloc o) A us := h.below ((Below.refl _ _).alloc (Nat.le_refl _) o)
theorem Row.drew {w : World} {A : Option Addr} {us : List Value} (h : Row w A us) : Row w.drew A us := h
theorem own_e0 (wz : World) (e : TypeId) {B : Nat} (h : B ≤ wz.heap.size) : (wz.alloc (.cells #[] e)).ownsRow B e 1 (.slice (some ⟨wz.heap.size, 0, none⟩) 0 0) 0 [] := own_lower (own_empty wz e) h
theorem own_e1 (wz : World) (e : TypeId) (o : Obj) {B : Nat} (h : B ≤ wz.heap.size) : ((wz.alloc o).alloc (.cells #[] e)).ownsRow B e 1 (.slice (some ⟨wz.heap.size + 1, 0, none⟩) 0 0) 0 [] := by
  have := own_e0 (wz.alloc o) e (B := B) (by simp; omega)
  simpa using this
theorem row_one (w : World) (v : Value) (e : TypeId) : Row (w.alloc (.cells #[v] e)) (some ⟨w.heap.size, 0, none⟩) [v] := Row.new w [v] e (0, 0)
theorem Row.grown {w w' : World} {A : Option Addr} {us : List Value} {b : Option Nat} (h : Row w A us) (hg : w.grownBy w' b) (hne : ∀ a, A = some a → some a.block ≠ b) : Row w' A us := fun hn => by
  obtain ⟨g, o, e, hc⟩ := h hn
  exact ⟨g, o, e, fun i u hu => hg.cell (hc i u hu) (show some g ≠ b from hne ⟨g, o, none⟩ e)⟩
theorem q_before {wz w1 : World} {v : Value} {e : TypeId} {o : Obj} {b : Nat} (hg : World.grownBy ((wz.alloc (.cells #[v] e)).alloc o).drew w1 (some b)) (hb : b = wz.heap.size + 1) : Row w1 (some ⟨wz.heap.size, 0, none⟩) [v] :=
  (((row_one wz v e).alloc o).drew).grown hg (fun a ha => by cases ha; intro h; injection h with h; simp at h; omega)
theorem q_after {wz w1 : World} {v : Value} {e : TypeId} {o : Obj} {b : Nat} (hg : World.grownBy ((wz.alloc o).alloc (.cells #[v] e)).drew w1 (some b)) (hb : b = wz.heap.size) : Row w1 (some ⟨wz.heap.size + 1, 0, none⟩) [v] := by
  have h := ((row_one (wz.alloc o) v e).drew).grown hg (fun a ha => by cases ha; intro h; injection h with h; simp at h; omega)
  simpa using h
theorem below_drew {B : Nat} {a w : World} (h : Below B a w) : Below B a w.drew := below_drewN h 1

/-- The head of a round of the reference's Sort. -/
def RSort (ls : List Bs) (w : World) (v i : Value) (wr : World) : Prop :=
  ∃ (k : Nat) (xs : List Value), k ≤ ls.length ∧ i = .int .i64 k ∧ wr.ownsRow w.heap.size 24 1 v (sortU (ls.take k)).length xs ∧ BSs w xs (sortU (ls.take k)) ∧ Below w.heap.size w wr

/-- The head of a round of its search. -/
def RSearch (ds : List Bs) (t : Bs) (w : World) (v : Value) (xs : List Value) (i : Value) (wr : World) : Prop :=
  ∃ k : Nat, k ≤ ds.length ∧ i = .int .i64 k ∧ (∀ j (h : j < ds.length), j < k → lb ds[j] t = true) ∧ wr.ownsRow w.heap.size 24 1 v ds.length xs ∧ Below w.heap.size w wr

/-- Behind the putting in. -/
def RPut (xs : List Value) (k n : Nat) (tv : Value) (w : World) (v : Value) (wr : World) : Prop :=
  wr.ownsRow w.heap.size 24 1 v (n + 1) (xs.take k ++ tv :: xs.drop k) ∧ Below w.heap.size w wr

theorem bss_put {w : World} {xs : List Value} {ds : List Bs} {tv : Value} {t : Bs} (h : BSs w xs ds) (ht : BS w tv t) (k : Nat) : BSs w (xs.take k ++ tv :: xs.drop k) (ds.take k ++ t :: ds.drop k) := by
  have hl := h.1
  have h1 : BSs w (xs.take k) (ds.take k) := ⟨by simp [hl], fun i v l hv hl' => by
    rw [List.getElem?_take] at hv hl'
    split at hv
    · rw [if_pos (by assumption)] at hl'
      exact h.2 i v l hv hl'
    · cases hv⟩
  have h2 : BSs w (xs.drop k) (ds.drop k) := ⟨by simp [hl], fun i v l hv hl' => by
    rw [List.getElem?_drop] at hv hl'
    exact h.2 _ v l hv hl'⟩
  have h3 : BSs w [tv] [t] := (BSs.nil w).snoc ht
  exact h1.append (h3.append h2)

/-- Behind a round that has put a token in. -/
theorem rput_round {ls ds : List Bs} {t : Bs} {w wz w3 : World} {v tv : Value} {xs : List Value} {i k m : Nat} (hi : i < ls.length) (hS : sortU (ls.take (i + 1)) = put ds t) (hP : put ds t = ds.take k ++ t :: ds.drop k) (hm : m = ds.length + 1) (hk : k ≤ ds.length)
    (hbx : BSs w xs ds) (ht : BS w tv t) (hb : Below w.heap.size w wz) (o3 : w3.ownsRow wz.heap.size 24 1 v m ([] ++ xs.take k ++ [tv] ++ xs.drop k)) (b3 : Below wz.heap.size wz w3) : RSort ls w v (.int .i64 (i + 1 : Nat)) w3 := by
  have e : [] ++ xs.take k ++ [tv] ++ xs.drop k = xs.take k ++ tv :: xs.drop k := by simp
  rw [e] at o3
  have hl : (ds.take k ++ t :: ds.drop k).length = m := by simp; omega
  refine ⟨i + 1, xs.take k ++ tv :: xs.drop k, by omega, rfl, ?_, ?_, hb.trans (b3.mono hb.size)⟩
  · rw [hS, hP, hl]
    exact own_lower o3 hb.size
  · rw [hS, hP]
    exact bss_put hbx ht k

end Go.Proofs.Ytjfiokcgmmmboaa
