/-
  Words and contracts that the proof leans on.
-/
import Derived.Test.YtejpbjglfjhjkaaM5
import Derived.Test.YtejpbjglfjhjkaaM6
namespace Go.Proofs.Ytejpbjglfjhjkaa

/-- Pairs further on. -/
def sh (i j : Nat) (l : List Pr) : List Pr := l.map fun p => (p.1 + (i : Int), p.2 + (j : Int))
theorem sh_nil (i j : Nat) : sh i j [] = [] := rfl
theorem sh_cons (i j : Nat) (p : Pr) (l : List Pr) : sh i j (p :: l) = (p.1 + (i : Int), p.2 + (j : Int)) :: sh i j l := rfl
theorem sh_append (i j : Nat) (l r : List Pr) : sh i j (l ++ r) = sh i j l ++ sh i j r := by simp [sh]
theorem sh_length (i j : Nat) (l : List Pr) : (sh i j l).length = l.length := by simp [sh]
theorem sh_zero : ∀ l : List Pr, sh 0 0 l = l
  | [] => rfl
  | p :: l => by rw [sh_cons, sh_zero l]; simp
theorem sh_sh (i j k m : Nat) : ∀ l : List Pr, sh i j (sh k m l) = sh (i + k) (j + m) l
  | [] => rfl
  | p :: l => by
    rw [sh_cons, sh_cons, sh_cons, sh_sh i j k m l]
    congr 1
    simp only [Prod.mk.injEq]
    omega
theorem lessB_sh (i j : Nat) : ∀ x y : List Pr, lessB (sh i j x) (sh i j y) = lessB x y
  | [], [] => rfl
  | [], _ :: _ => rfl
  | _ :: _, [] => rfl
  | p :: x, q :: y => by
    rw [sh_cons, sh_cons, lessB, lessB, lessB_sh i j x y]
    have e1 : (p.1 + (i : Int) = q.1 + (i : Int)) ↔ p.1 = q.1 := by omega
    have e2 : (p.2 + (j : Int) = q.2 + (j : Int)) ↔ p.2 = q.2 := by omega
    simp only [e1, e2, Int.add_lt_add_iff_right]
theorem lessB_app : ∀ {x y : List Pr} (s t : List Pr), x.length = y.length → lessB x y = true → lessB (x ++ s) (y ++ t) = true
  | [], [], _, _, _, h => by cases h
  | [], _ :: _, _, _, h, _ => by simp at h
  | _ :: _, [], _, _, h, _ => by simp at h
  | p :: x, q :: y, s, t, hl, h => by
    rw [List.cons_append, List.cons_append]
    rw [lessB_cons] at h ⊢
    rcases h with h | ⟨h, h' | ⟨h', h''⟩⟩
    · exact .inl h
    · exact .inr ⟨h, .inl h'⟩
    · exact .inr ⟨h, .inr ⟨h', lessB_app s t (by simpa using hl) h''⟩⟩
/-- The first place of a number. -/
def at1 (x : Int) : List Int → Option Nat
  | [] => none
  | y :: b => if y = x then some 0 else (at1 x b).map (· + 1)
theorem at1_none {x : Int} : ∀ {b : List Int}, at1 x b = none → ∀ y : Nat, b[y]? ≠ some x
  | [], _, y, h => by simp at h
  | z :: b, h, y, hy => by
    rw [at1] at h
    by_cases e : z = x
    · rw [if_pos e] at h; cases h
    · rw [if_neg e] at h
      cases y with
      | zero => simp at hy; exact e hy
      | succ y => exact at1_none (by simpa using h) y (by simpa using hy)
theorem at1_some {x : Int} : ∀ {b : List Int} {k : Nat}, at1 x b = some k → b[k]? = some x ∧ ∀ y : Nat, b[y]? = some x → k ≤ y
  | [], _, h => by cases h
  | z :: b, k, h => by
    rw [at1] at h
    by_cases e : z = x
    · rw [if_pos e] at h
      cases h
      exact ⟨by simp [e], fun y _ => Nat.zero_le _⟩
    · rw [if_neg e] at h
      obtain ⟨j, hj, rfl⟩ := Option.map_eq_some_iff.1 h
      obtain ⟨h1, h2⟩ := at1_some hj
      refine ⟨by simpa using h1, fun y hy => ?_⟩
      cases y with
      | zero => simp at hy; exact absurd hy e
      | succ y => have := h2 y (by simpa using hy); omega
theorem at1_of {x : Int} {b : List Int} {k : Nat} (h : b[k]? = some x) (hk : ∀ y : Nat, b[y]? = some x → k ≤ y) : at1 x b = some k := by
  cases e : at1 x b with
  | none => exact absurd h (at1_none e k)
  | some j =>
    obtain ⟨h1, h2⟩ := at1_some e
    have := h2 k h
    have := hk j h1
    congr 1
    omega
theorem at1_no {x : Int} {b : List Int} (h : ∀ y : Nat, b[y]? ≠ some x) : at1 x b = none := by
  cases e : at1 x b with
  | none => rfl
  | some j => exact absurd (at1_some e).1 (h j)

/-- L, number by number of the first list. -/
theorem lcs_no {x : Int} (a : List Int) : ∀ {b : List Int}, at1 x b = none → lcs (x :: a) b = lcs a b
  | [], _ => by rw [lcs_nil_right, lcs_nil_right]
  | y :: b, h => by
    have hy := at1_none h
    have hne : x ≠ y := fun e => hy 0 (by simp [e])
    have h' : at1 x b = none := at1_no fun z hz => hy (z + 1) (by simpa using hz)
    rw [lcs_other hne, lcs_no a h']
    have := lcs_mono (List.Sublist.refl a) (List.sublist_cons_self y b)
    omega
theorem lcs_yes {x : Int} (a : List Int) : ∀ {b : List Int} {k : Nat}, at1 x b = some k → lcs (x :: a) b = max (lcs a b) (lcs a (b.drop (k + 1)) + 1)
  | [], _, h => by cases h
  | y :: b, k, h => by
    rw [at1] at h
    by_cases e : y = x
    · rw [if_pos e] at h
      cases h
      subst e
      rw [lcs_same]
      have := lcs_cons_le y b a
      rw [lcs_comm, lcs_comm b a] at this
      show _ = max _ (lcs a b + 1)
      omega
    · rw [if_neg e] at h
      obtain ⟨j, hj, rfl⟩ := Option.map_eq_some_iff.1 h
      rw [lcs_other (fun e' => e e'.symm), lcs_yes a hj]
      have := lcs_mono (List.Sublist.refl a) (List.sublist_cons_self y b)
      show _ = max _ (lcs a (b.drop (j + 1)) + 1)
      omega

/-! Good lists, from places on. -/
def Ga (a b : List Int) : Nat → Nat → List Pr → Prop
  | _, _, [] => True
  | i, j, p :: l => ∃ (x y : Nat) (u : Int), p = ((x : Int), (y : Int)) ∧ i ≤ x ∧ j ≤ y ∧ a[x]? = some u ∧ b[y]? = some u ∧ Ga a b (x + 1) (y + 1) l
theorem ga_mono {a b : List Int} {i j i' j' : Nat} : ∀ {l : List Pr}, Ga a b i j l → i' ≤ i → j' ≤ j → Ga a b i' j' l
  | [], _, _, _ => trivial
  | _ :: _, ⟨x, y, u, e, h1, h2, h⟩, k1, k2 => ⟨x, y, u, e, by omega, by omega, h⟩
theorem ga_of {a b : List Int} : ∀ {l : List Pr} {o : Option Pr} {i j : Nat}, (∀ x y : Nat, rises o ((x : Int), (y : Int)) = true → i ≤ x ∧ j ≤ y) → goodGo a b o l = true → Ga a b i j l
  | [], _, _, _, _, _ => trivial
  | p :: l, o, i, j, ho, h => by
    rw [goodGo, Bool.and_eq_true, Bool.and_eq_true] at h
    obtain ⟨⟨h1, h2⟩, h3⟩ := h
    obtain ⟨x, y, u, rfl, hx, hy⟩ := okP_out h1
    obtain ⟨g1, g2⟩ := ho x y h2
    refine ⟨x, y, u, rfl, g1, g2, hx, hy, ga_of (fun x' y' hr => ?_) h3⟩
    simp only [rises, decide_eq_true_eq] at hr
    omega
theorem of_ga {a b : List Int} : ∀ {l : List Pr} {o : Option Pr} {i j : Nat}, (∀ x y : Nat, i ≤ x → j ≤ y → rises o ((x : Int), (y : Int)) = true) → Ga a b i j l → goodGo a b o l = true
  | [], _, _, _, _, _ => rfl
  | _ :: l, o, i, j, ho, ⟨x, y, u, e, h1, h2, hx, hy, h⟩ => by
    subst e
    rw [goodGo, okP_yes hx hy, ho x y h1 h2, Bool.true_and, Bool.true_and]
    refine of_ga (fun x' y' g1 g2 => ?_) h
    simp only [rises, decide_eq_true_eq]
    omega
/-- Good lists. -/
def G (a b : List Int) (l : List Pr) : Prop := Ga a b 0 0 l
theorem good_iff {a b : List Int} {l : List Pr} : goodB a b l = true ↔ G a b l :=
  ⟨fun h => ga_of (fun _ _ _ => ⟨Nat.zero_le _, Nat.zero_le _⟩) h, fun h => of_ga (fun _ _ _ _ => rfl) h⟩
theorem ga_drop {a b : List Int} {s t : Nat} : ∀ {l : List Pr} {i j : Nat}, Ga a b (s + i) (t + j) l ↔ ∃ r, l = sh s t r ∧ Ga (a.drop s) (b.drop t) i j r
  | [], i, j => ⟨fun _ => ⟨[], rfl, trivial⟩, fun _ => trivial⟩
  | p :: l, i, j => by
    constructor
    · rintro ⟨x, y, u, rfl, h1, h2, hx, hy, h⟩
      obtain ⟨x', rfl⟩ := Nat.exists_eq_add_of_le (show s ≤ x by omega)
      obtain ⟨y', rfl⟩ := Nat.exists_eq_add_of_le (show t ≤ y by omega)
      obtain ⟨r, e, hr⟩ := ga_drop.1 (show Ga a b (s + (x' + 1)) (t + (y' + 1)) l from h)
      refine ⟨((x' : Int), (y' : Int)) :: r, ?_, x', y', u, rfl, by omega, by omega, by rw [List.getElem?_drop]; exact hx, by rw [List.getElem?_drop]; exact hy, hr⟩
      rw [sh_cons, ← e]
      congr 1
      simp only [Prod.mk.injEq]
      omega
    · rintro ⟨r, e, hr⟩
      cases r with
      | nil => cases e
      | cons q r =>
        obtain ⟨x, y, u, rfl, h1, h2, hx, hy, h⟩ := hr
        rw [sh_cons] at e
        injection e with e1 e2
        rw [List.getElem?_drop] at hx hy
        refine ⟨s + x, t + y, u, ?_, by omega, by omega, hx, hy, (ga_drop (i := x + 1) (j := y + 1)).2 ⟨r, e2, h⟩⟩
        rw [e1]
        simp only [Prod.mk.injEq]
        omega
theorem g_sh {a b : List Int} {s t : Nat} {r : List Pr} (h : G (a.drop s) (b.drop t) r) : Ga a b s t (sh s t r) := (ga_drop (i := 0) (j := 0)).2 ⟨r, rfl, h⟩
theorem g_skip {x : Int} {a b : List Int} {r : List Pr} (h : G a b r) : G (x :: a) b (sh 1 0 r) := ga_mono (g_sh (a := x :: a) (b := b) (s := 1) (t := 0) h) (by omega) (by omega)
theorem g_take {x : Int} {a b : List Int} {y : Nat} {r : List Pr} (hy : b[y]? = some x) (h : G a (b.drop (y + 1)) r) : G (x :: a) b ((0, (y : Int)) :: sh 1 (y + 1) r) := ⟨0, y, x, rfl, Nat.le_refl _, Nat.zero_le _, rfl, hy, g_sh (a := x :: a) h⟩
theorem g_cases {x : Int} {a b : List Int} {l : List Pr} (h : G (x :: a) b l) : (∃ r, l = sh 1 0 r ∧ G a b r) ∨ (∃ (y : Nat) (r : List Pr), b[y]? = some x ∧ l = (0, (y : Int)) :: sh 1 (y + 1) r ∧ G a (b.drop (y + 1)) r) := by
  cases l with
  | nil => exact .inl ⟨[], rfl, trivial⟩
  | cons p l =>
    obtain ⟨X, Y, u, rfl, h1, h2, hx, hy, hl⟩ := h
    cases X with
    | zero =>
      right
      obtain ⟨r, e, hr⟩ := (ga_drop (i := 0) (j := 0)).1 hl
      simp at hx
      subst hx
      exact ⟨Y, r, hy, by rw [e]; rfl, hr⟩
    | succ X =>
      left
      have : Ga (x :: a) b (1 + 0) (0 + 0) (((X + 1 : Nat), (Y : Int)) :: l) := ⟨X + 1, Y, u, rfl, by omega, by omega, hx, hy, hl⟩
      obtain ⟨r, e, hr⟩ := ga_drop.1 this
      exact ⟨r, e, hr⟩
theorem g_nil {b : List Int} {l : List Pr} (h : G [] b l) : l = [] := by
  cases l with
  | nil => rfl
  | cons p l =>
    obtain ⟨X, Y, u, rfl, h1, h2, hx, hy, hl⟩ := h
    simp at hx
theorem g_le {a b : List Int} {l : List Pr} (h : G a b l) : l.length ≤ lcs a b := by
  have h := good_iff.2 h
  rw [← (good_vals h).2]
  exact lcs_top (good_sub h) (good_sub' h)
theorem g_app {a b : List Int} {c j : Nat} : ∀ {l s : List Pr} {i k : Nat}, Ga (a.take c) (b.take j) i k l → Ga a b c j s → i ≤ c → k ≤ j → Ga a b i k (l ++ s)
  | [], s, i, k, _, hs, h1, h2 => ga_mono hs h1 h2
  | p :: l, s, i, k, ⟨x, y, u, e, h1, h2, hx, hy, hl⟩, hs, k1, k2 => by
    rw [List.getElem?_take] at hx hy
    split at hx
    · split at hy
      · exact ⟨x, y, u, e, h1, h2, hx, hy, g_app hl hs (by omega) (by omega)⟩
      · cases hy
    · cases hx
theorem g_join {a b : List Int} {c j : Nat} {l r : List Pr} (h : G (a.take c) (b.take j) l) (h' : G (a.drop c) (b.drop j) r) : G a b (l ++ sh c j r) := g_app h (g_sh h') (Nat.zero_le _) (Nat.zero_le _)

end Go.Proofs.Ytejpbjglfjhjkaa

namespace Go.Proofs.Ytejpbjglfjhjkaa
open Go.RowKit

/-- The first place from s on where f holds, at most c further. -/
def nst (f : Nat → Bool) (s : Nat) : Nat → Nat
  | 0 => s
  | c + 1 => if f s = true then s else nst f (s + 1) c
theorem nst_ge (f : Nat → Bool) : ∀ (c s : Nat), s ≤ nst f s c ∧ nst f s c ≤ s + c
  | 0, s => ⟨Nat.le_refl _, Nat.le_refl _⟩
  | c + 1, s => by
    have h := nst_ge f c (s + 1)
    unfold nst
    split <;> omega
theorem nst_no (f : Nat → Bool) : ∀ (c s j : Nat), s ≤ j → j < nst f s c → f j = false
  | 0, s, j, h1, h2 => by unfold nst at h2; omega
  | c + 1, s, j, h1, h2 => by
    unfold nst at h2
    split at h2
    · omega
    · rename_i hs
      by_cases e : j = s
      · subst e
        simpa using hs
      · exact nst_no f c (s + 1) j (by omega) h2
theorem nst_at (f : Nat → Bool) : ∀ (c s : Nat), f (s + c) = true → f (nst f s c) = true
  | 0, s, h => h
  | c + 1, s, h => by
    unfold nst
    split
    · assumption
    · exact nst_at f c (s + 1) (by rw [show s + 1 + c = s + (c + 1) by omega]; exact h)
/-- The place of a pair that is pushed to the front. -/
def nsP (a b : List Int) (s : Nat) (p : Pr) : Nat := nst (fun j => decide (b[j]? = a[p.1.toNat]?)) s (p.2.toNat - s)
/-- Left. -/
def lft (a b : List Int) : Nat → List Pr → List Pr
  | _, [] => []
  | s, p :: l => (p.1, (nsP a b s p : Int)) :: lft a b (nsP a b s p + 1) l
/-- Top. -/
def topL (a b : List Int) (l : List Pr) : List Pr := turnP (lft b a 0 (turnP l))
theorem lft_length (a b : List Int) : ∀ (l : List Pr) (s : Nat), (lft a b s l).length = l.length
  | [], _ => rfl
  | p :: l, s => by
    show (lft a b _ l).length + 1 = l.length + 1
    rw [lft_length a b l]
theorem nsP_is {a b : List Int} {s x y : Nat} {u : Int} (hs : s ≤ y) (h1 : a[x]? = some u) (h2 : b[y]? = some u) :
    s ≤ nsP a b s ((x : Int), (y : Int)) ∧ nsP a b s ((x : Int), (y : Int)) ≤ y ∧ b[nsP a b s ((x : Int), (y : Int))]? = some u ∧ ∀ t, s ≤ t → t < nsP a b s ((x : Int), (y : Int)) → b[t]? ≠ some u := by
  have g1 := nst_ge (fun j => decide (b[j]? = a[x]?)) (y - s) s
  have g2 := nst_at (fun j => decide (b[j]? = a[x]?)) (y - s) s (by rw [show s + (y - s) = y by omega, h1, h2]; simp)
  have g3 := nst_no (fun j => decide (b[j]? = a[x]?)) (y - s) s
  have e : nsP a b s ((x : Int), (y : Int)) = nst (fun j => decide (b[j]? = a[x]?)) s (y - s) := by unfold nsP; simp
  rw [e]
  refine ⟨g1.1, by omega, ?_, fun t ht ht' => ?_⟩
  · have := of_decide_eq_true g2
    rw [this, h1]
  · have := g3 t ht ht'
    rw [h1] at this
    simpa using this
theorem turn_length (l : List Pr) : (turnP l).length = l.length := by unfold turnP; simp
/-- Pairs of both lists turned round, moved back. -/
def bkPs (n m : Nat) (r : List Pr) : List Pr := r.reverse.map fun p => ((n : Int) - 1 - p.1, (m : Int) - 1 - p.2)
theorem bkPs_length (n m : Nat) (r : List Pr) : (bkPs n m r).length = r.length := by unfold bkPs; simp
theorem back_ga {a b : List Int} : ∀ {r acc : List Pr} {i j : Nat}, Ga a.reverse b.reverse i j r → Ga a b (a.length - i) (b.length - j) acc → Ga a b 0 0 (bkPs a.length b.length r ++ acc)
  | [], acc, i, j, _, h => ga_mono h (Nat.zero_le _) (Nat.zero_le _)
  | p :: r, acc, i, j, ⟨x, y, u, e, h1, h2, hx, hy, hl⟩, h => by
    subst e
    have lx : x < a.length := by have := (List.getElem?_eq_some_iff.1 hx).1; simpa using this
    have ly : y < b.length := by have := (List.getElem?_eq_some_iff.1 hy).1; simpa using this
    rw [List.getElem?_reverse lx] at hx
    rw [List.getElem?_reverse ly] at hy
    have e : bkPs a.length b.length (((x : Int), (y : Int)) :: r) ++ acc = bkPs a.length b.length r ++ ((((a.length - 1 - x : Nat) : Int), ((b.length - 1 - y : Nat) : Int)) :: acc) := by
      unfold bkPs
      rw [List.reverse_cons, List.map_append, List.append_assoc]
      congr 1
      simp only [List.map_cons, List.map_nil, List.cons_append, List.nil_append]
      congr 1
      refine Prod.ext ?_ ?_
      · show (a.length : Int) - 1 - (x : Int) = _
        omega
      · show (b.length : Int) - 1 - (y : Int) = _
        omega
    rw [e]
    exact back_ga hl ⟨_, _, u, rfl, by omega, by omega, hx, hy, ga_mono h (by omega) (by omega)⟩
theorem back_good {a b : List Int} {r : List Pr} (h : goodB a.reverse b.reverse r = true) : goodB a b (bkPs a.length b.length r) = true := by
  have := back_ga (acc := []) (good_iff.1 h) trivial
  rw [List.append_nil] at this
  exact good_iff.2 this

end Go.Proofs.Ytejpbjglfjhjkaa
