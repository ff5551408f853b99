/-
  The least of the longest lists of pairs, plain: number by number of the first list; that it is the one; where it parts.
-/
import Derived.Test.YtobijkjonnoeiaaPrP
import Derived.Test.YtobijkjonnoeiaaLe2
namespace Go.Proofs.Ytobijkjonnoeiaa

/-- Pairs further on. -/
def sh (i j : Nat) (l : List Pr) : List Pr := l.map fun p => (p.1 + (i : Int), p.2 + (j : Int))
theorem sh_nil (i j : Nat) : sh i j [] = [] := rfl
theorem sh_cons (i j : Nat) (p : Pr) (l : List Pr) : sh i j (p :: l) = (p.1 + (i : Int), p.2 + (j : Int)) :: sh i j l := rfl
theorem sh_append (i j : Nat) (l r : List Pr) : sh i j (l ++ r) = sh i j l ++ sh i j r := by simp [sh]
theorem sh_length (i j : Nat) (l : List Pr) : (sh i j l).length = l.length := by simp [sh]
theorem sh_drop (i j k : Nat) (l : List Pr) : (sh i j l).drop k = sh i j (l.drop k) := by simp [sh, List.map_drop]
theorem sh_zero : ∀ l : List Pr, sh 0 0 l = l
  | [] => rfl
  | p :: l => by rw [sh_cons, sh_zero l]; simp
theorem sh_sh (i j k m : Nat) : ∀ l : List Pr, sh i j (sh k m l) = sh (i + k) (j + m) l
  | [] => rfl
  | p :: l => by
    rw [sh_cons, sh_cons, sh_cons, sh_sh i j k m l]
    congr 1
    simp only [Prod.mk.injEq]
    omega
theorem sh_get {i j k : Nat} {l : List Pr} {p : Pr} (h : l[k]? = some p) : (sh i j l)[k]? = some (p.1 + (i : Int), p.2 + (j : Int)) := by
  unfold sh
  rw [List.getElem?_map, h]
  rfl
theorem lessB_sh (i j : Nat) : ∀ x y : List Pr, lessB (sh i j x) (sh i j y) = lessB x y
  | [], [] => rfl
  | [], _ :: _ => rfl
  | _ :: _, [] => rfl
  | p :: x, q :: y => by
    rw [sh_cons, sh_cons, lessB, lessB, lessB_sh i j x y]
    have e1 : (p.1 + (i : Int) = q.1 + (i : Int)) ↔ p.1 = q.1 := by omega
    have e2 : (p.2 + (j : Int) = q.2 + (j : Int)) ↔ p.2 = q.2 := by omega
    simp only [e1, e2, Int.add_lt_add_iff_right]
theorem lessB_app : ∀ {x y : List Pr} (s t : List Pr), x.length = y.length → lessB x y = true → lessB (x ++ s) (y ++ t) = true
  | [], [], _, _, _, h => by cases h
  | [], _ :: _, _, _, h, _ => by simp at h
  | _ :: _, [], _, _, h, _ => by simp at h
  | p :: x, q :: y, s, t, hl, h => by
    rw [List.cons_append, List.cons_append]
    rw [lessB_cons] at h ⊢
    rcases h with h | ⟨h, h' | ⟨h', h''⟩⟩
    · exact .inl h
    · exact .inr ⟨h, .inl h'⟩
    · exact .inr ⟨h, .inr ⟨h', lessB_app s t (by simpa using hl) h''⟩⟩
theorem lessB_app_left : ∀ (s : List Pr) {x y : List Pr}, lessB x y = true → lessB (s ++ x) (s ++ y) = true
  | [], _, _, h => h
  | p :: s, _, _, h => by
    rw [List.cons_append, List.cons_append, lessB_cons]
    exact .inr ⟨rfl, .inr ⟨rfl, lessB_app_left s h⟩⟩

/-- The first place of a number. -/
def at1 (x : Int) : List Int → Option Nat
  | [] => none
  | y :: b => if y = x then some 0 else (at1 x b).map (· + 1)
theorem at1_none {x : Int} : ∀ {b : List Int}, at1 x b = none → ∀ y : Nat, b[y]? ≠ some x
  | [], _, y, h => by simp at h
  | z :: b, h, y, hy => by
    rw [at1] at h
    by_cases e : z = x
    · rw [if_pos e] at h; cases h
    · rw [if_neg e] at h
      cases y with
      | zero => simp at hy; exact e hy
      | succ y => exact at1_none (by simpa using h) y (by simpa using hy)
theorem at1_some {x : Int} : ∀ {b : List Int} {k : Nat}, at1 x b = some k → b[k]? = some x ∧ ∀ y : Nat, b[y]? = some x → k ≤ y
  | [], _, h => by cases h
  | z :: b, k, h => by
    rw [at1] at h
    by_cases e : z = x
    · rw [if_pos e] at h
      cases h
      exact ⟨by simp [e], fun y _ => Nat.zero_le _⟩
    · rw [if_neg e] at h
      obtain ⟨j, hj, rfl⟩ := Option.map_eq_some_iff.1 h
      obtain ⟨h1, h2⟩ := at1_some hj
      refine ⟨by simpa using h1, fun y hy => ?_⟩
      cases y with
      | zero => simp at hy; exact absurd hy e
      | succ y => have := h2 y (by simpa using hy); omega
theorem at1_of {x : Int} {b : List Int} {k : Nat} (h : b[k]? = some x) (hk : ∀ y : Nat, b[y]? = some x → k ≤ y) : at1 x b = some k := by
  cases e : at1 x b with
  | none => exact absurd h (at1_none e k)
  | some j =>
    obtain ⟨h1, h2⟩ := at1_some e
    have := h2 k h
    have := hk j h1
    congr 1
    omega
theorem at1_no {x : Int} {b : List Int} (h : ∀ y : Nat, b[y]? ≠ some x) : at1 x b = none := by
  cases e : at1 x b with
  | none => rfl
  | some j => exact absurd (at1_some e).1 (h j)

/-- L, number by number of the first list. -/
theorem lcs_no {x : Int} (a : List Int) : ∀ {b : List Int}, at1 x b = none → lcs (x :: a) b = lcs a b
  | [], _ => by rw [lcs_nil_right, lcs_nil_right]
  | y :: b, h => by
    have hy := at1_none h
    have hne : x ≠ y := fun e => hy 0 (by simp [e])
    have h' : at1 x b = none := at1_no fun z hz => hy (z + 1) (by simpa using hz)
    rw [lcs_other hne, lcs_no a h']
    have := lcs_mono (List.Sublist.refl a) (List.sublist_cons_self y b)
    omega
theorem lcs_yes {x : Int} (a : List Int) : ∀ {b : List Int} {k : Nat}, at1 x b = some k → lcs (x :: a) b = max (lcs a b) (lcs a (b.drop (k + 1)) + 1)
  | [], _, h => by cases h
  | y :: b, k, h => by
    rw [at1] at h
    by_cases e : y = x
    · rw [if_pos e] at h
      cases h
      subst e
      rw [lcs_same]
      have := lcs_cons_le y b a
      rw [lcs_comm, lcs_comm b a] at this
      show _ = max _ (lcs a b + 1)
      omega
    · rw [if_neg e] at h
      obtain ⟨j, hj, rfl⟩ := Option.map_eq_some_iff.1 h
      rw [lcs_other (fun e' => e e'.symm), lcs_yes a hj]
      have := lcs_mono (List.Sublist.refl a) (List.sublist_cons_self y b)
      show _ = max _ (lcs a (b.drop (j + 1)) + 1)
      omega

/-- The least list. -/
def lst : List Int → List Int → List Pr
  | [], _ => []
  | x :: a, b =>
    match at1 x b with
    | none => sh 1 0 (lst a b)
    | some k => if (lst a b).length ≤ (lst a (b.drop (k + 1))).length + 1 then (0, (k : Int)) :: sh 1 (k + 1) (lst a (b.drop (k + 1))) else sh 1 0 (lst a b)
theorem lst_no {x : Int} {a b : List Int} (h : at1 x b = none) : lst (x :: a) b = sh 1 0 (lst a b) := by rw [lst, h]
theorem lst_take {x : Int} {a b : List Int} {k : Nat} (h : at1 x b = some k) (hl : (lst a b).length ≤ (lst a (b.drop (k + 1))).length + 1) : lst (x :: a) b = (0, (k : Int)) :: sh 1 (k + 1) (lst a (b.drop (k + 1))) := by rw [lst, h]; exact if_pos hl
theorem lst_skip {x : Int} {a b : List Int} {k : Nat} (h : at1 x b = some k) (hl : ¬ (lst a b).length ≤ (lst a (b.drop (k + 1))).length + 1) : lst (x :: a) b = sh 1 0 (lst a b) := by rw [lst, h]; exact if_neg hl
theorem lst_length : ∀ a b : List Int, (lst a b).length = lcs a b
  | [], b => by rw [lcs_nil_left]; rfl
  | x :: a, b => by
    cases h : at1 x b with
    | none => rw [lst_no h, sh_length, lst_length a b, lcs_no a h]
    | some k =>
      by_cases hl : (lst a b).length ≤ (lst a (b.drop (k + 1))).length + 1
      · rw [lst_take h hl, List.length_cons, sh_length, lcs_yes a h]
        rw [lst_length a b, lst_length a _] at hl
        rw [lst_length]
        omega
      · rw [lst_skip h hl, sh_length, lcs_yes a h]
        rw [lst_length a b, lst_length a _] at hl
        rw [lst_length]
        omega

/-! Good lists, from places on. -/
def Ga (a b : List Int) : Nat → Nat → List Pr → Prop
  | _, _, [] => True
  | i, j, p :: l => ∃ (x y : Nat) (u : Int), p = ((x : Int), (y : Int)) ∧ i ≤ x ∧ j ≤ y ∧ a[x]? = some u ∧ b[y]? = some u ∧ Ga a b (x + 1) (y + 1) l
theorem ga_mono {a b : List Int} {i j i' j' : Nat} : ∀ {l : List Pr}, Ga a b i j l → i' ≤ i → j' ≤ j → Ga a b i' j' l
  | [], _, _, _ => trivial
  | _ :: _, ⟨x, y, u, e, h1, h2, h⟩, k1, k2 => ⟨x, y, u, e, by omega, by omega, h⟩
theorem ga_of {a b : List Int} : ∀ {l : List Pr} {o : Option Pr} {i j : Nat}, (∀ x y : Nat, rises o ((x : Int), (y : Int)) = true → i ≤ x ∧ j ≤ y) → goodGo a b o l = true → Ga a b i j l
  | [], _, _, _, _, _ => trivial
  | p :: l, o, i, j, ho, h => by
    rw [goodGo, Bool.and_eq_true, Bool.and_eq_true] at h
    obtain ⟨⟨h1, h2⟩, h3⟩ := h
    obtain ⟨x, y, u, rfl, hx, hy⟩ := okP_out h1
    obtain ⟨g1, g2⟩ := ho x y h2
    refine ⟨x, y, u, rfl, g1, g2, hx, hy, ga_of (fun x' y' hr => ?_) h3⟩
    simp only [rises, decide_eq_true_eq] at hr
    omega
theorem of_ga {a b : List Int} : ∀ {l : List Pr} {o : Option Pr} {i j : Nat}, (∀ x y : Nat, i ≤ x → j ≤ y → rises o ((x : Int), (y : Int)) = true) → Ga a b i j l → goodGo a b o l = true
  | [], _, _, _, _, _ => rfl
  | _ :: l, o, i, j, ho, ⟨x, y, u, e, h1, h2, hx, hy, h⟩ => by
    subst e
    rw [goodGo, okP_yes hx hy, ho x y h1 h2, Bool.true_and, Bool.true_and]
    refine of_ga (fun x' y' g1 g2 => ?_) h
    simp only [rises, decide_eq_true_eq]
    omega
/-- Good lists. -/
def G (a b : List Int) (l : List Pr) : Prop := Ga a b 0 0 l
theorem good_iff {a b : List Int} {l : List Pr} : goodB a b l = true ↔ G a b l :=
  ⟨fun h => ga_of (fun _ _ _ => ⟨Nat.zero_le _, Nat.zero_le _⟩) h, fun h => of_ga (fun _ _ _ _ => rfl) h⟩
theorem ga_drop {a b : List Int} {s t : Nat} : ∀ {l : List Pr} {i j : Nat}, Ga a b (s + i) (t + j) l ↔ ∃ r, l = sh s t r ∧ Ga (a.drop s) (b.drop t) i j r
  | [], i, j => ⟨fun _ => ⟨[], rfl, trivial⟩, fun _ => trivial⟩
  | p :: l, i, j => by
    constructor
    · rintro ⟨x, y, u, rfl, h1, h2, hx, hy, h⟩
      obtain ⟨x', rfl⟩ := Nat.exists_eq_add_of_le (show s ≤ x by omega)
      obtain ⟨y', rfl⟩ := Nat.exists_eq_add_of_le (show t ≤ y by omega)
      obtain ⟨r, e, hr⟩ := ga_drop.1 (show Ga a b (s + (x' + 1)) (t + (y' + 1)) l from h)
      refine ⟨((x' : Int), (y' : Int)) :: r, ?_, x', y', u, rfl, by omega, by omega, by rw [List.getElem?_drop]; exact hx, by rw [List.getElem?_drop]; exact hy, hr⟩
      rw [sh_cons, ← e]
      congr 1
      simp only [Prod.mk.injEq]
      omega
    · rintro ⟨r, e, hr⟩
      cases r with
      | nil => cases e
      | cons q r =>
        obtain ⟨x, y, u, rfl, h1, h2, hx, hy, h⟩ := hr
        rw [sh_cons] at e
        injection e with e1 e2
        rw [List.getElem?_drop] at hx hy
        refine ⟨s + x, t + y, u, ?_, by omega, by omega, hx, hy, (ga_drop (i := x + 1) (j := y + 1)).2 ⟨r, e2, h⟩⟩
        rw [e1]
        simp only [Prod.mk.injEq]
        omega
theorem g_sh {a b : List Int} {s t : Nat} {r : List Pr} (h : G (a.drop s) (b.drop t) r) : Ga a b s t (sh s t r) := (ga_drop (i := 0) (j := 0)).2 ⟨r, rfl, h⟩
theorem g_skip {x : Int} {a b : List Int} {r : List Pr} (h : G a b r) : G (x :: a) b (sh 1 0 r) := ga_mono (g_sh (a := x :: a) (b := b) (s := 1) (t := 0) h) (by omega) (by omega)
theorem g_take {x : Int} {a b : List Int} {y : Nat} {r : List Pr} (hy : b[y]? = some x) (h : G a (b.drop (y + 1)) r) : G (x :: a) b ((0, (y : Int)) :: sh 1 (y + 1) r) := ⟨0, y, x, rfl, Nat.le_refl _, Nat.zero_le _, rfl, hy, g_sh (a := x :: a) h⟩
theorem g_cases {x : Int} {a b : List Int} {l : List Pr} (h : G (x :: a) b l) : (∃ r, l = sh 1 0 r ∧ G a b r) ∨ (∃ (y : Nat) (r : List Pr), b[y]? = some x ∧ l = (0, (y : Int)) :: sh 1 (y + 1) r ∧ G a (b.drop (y + 1)) r) := by
  cases l with
  | nil => exact .inl ⟨[], rfl, trivial⟩
  | cons p l =>
    obtain ⟨X, Y, u, rfl, h1, h2, hx, hy, hl⟩ := h
    cases X with
    | zero =>
      right
      obtain ⟨r, e, hr⟩ := (ga_drop (i := 0) (j := 0)).1 hl
      simp at hx
      subst hx
      exact ⟨Y, r, hy, by rw [e]; rfl, hr⟩
    | succ X =>
      left
      have : Ga (x :: a) b (1 + 0) (0 + 0) (((X + 1 : Nat), (Y : Int)) :: l) := ⟨X + 1, Y, u, rfl, by omega, by omega, hx, hy, hl⟩
      obtain ⟨r, e, hr⟩ := ga_drop.1 this
      exact ⟨r, e, hr⟩
theorem g_nil {b : List Int} {l : List Pr} (h : G [] b l) : l = [] := by
  cases l with
  | nil => rfl
  | cons p l =>
    obtain ⟨X, Y, u, rfl, h1, h2, hx, hy, hl⟩ := h
    simp at hx
theorem g_le {a b : List Int} {l : List Pr} (h : G a b l) : l.length ≤ lcs a b := by
  have h := good_iff.2 h
  rw [← (good_vals h).2]
  exact lcs_top (good_sub h) (good_sub' h)
theorem g_app {a b : List Int} {c j : Nat} : ∀ {l s : List Pr} {i k : Nat}, Ga (a.take c) (b.take j) i k l → Ga a b c j s → i ≤ c → k ≤ j → Ga a b i k (l ++ s)
  | [], s, i, k, _, hs, h1, h2 => ga_mono hs h1 h2
  | p :: l, s, i, k, ⟨x, y, u, e, h1, h2, hx, hy, hl⟩, hs, k1, k2 => by
    rw [List.getElem?_take] at hx hy
    split at hx
    · split at hy
      · exact ⟨x, y, u, e, h1, h2, hx, hy, g_app hl hs (by omega) (by omega)⟩
      · cases hy
    · cases hx
theorem g_join {a b : List Int} {c j : Nat} {l r : List Pr} (h : G (a.take c) (b.take j) l) (h' : G (a.drop c) (b.drop j) r) : G a b (l ++ sh c j r) := g_app h (g_sh h') (Nat.zero_le _) (Nat.zero_le _)

/-- A list is the least of the longest ones. -/
def Lea (a b : List Int) (l : List Pr) : Prop := G a b l ∧ l.length = lcs a b ∧ ∀ l', G a b l' → l'.length = lcs a b → lessB l' l = false
theorem Lea.unique {a b : List Int} {l l' : List Pr} (h : Lea a b l) (h' : Lea a b l') : l = l' := lessB_total (h'.2.2 l h.1 h.2.1) (h.2.2 l' h'.1 h'.2.1)
theorem lst_lea : ∀ a b : List Int, Lea a b (lst a b)
  | [], b => ⟨trivial, by rw [lcs_nil_left]; rfl, fun l' h _ => by rw [g_nil h]; rfl⟩
  | x :: a, b => by
    obtain ⟨g1, g2, g3⟩ := lst_lea a b
    have hlen := lst_length (x :: a) b
    cases h : at1 x b with
    | none =>
      rw [lst_no h] at hlen ⊢
      refine ⟨g_skip g1, hlen, fun l' hl' hn => ?_⟩
      rcases g_cases hl' with ⟨r, rfl, hr⟩ | ⟨y, r, hy, _⟩
      · rw [lessB_sh]
        rw [sh_length, lcs_no a h] at hn
        exact g3 r hr hn
      · exact absurd hy (at1_none h y)
    | some k =>
      obtain ⟨a1, a2⟩ := at1_some h
      obtain ⟨k1, k2, k3⟩ := lst_lea a (b.drop (k + 1))
      by_cases hl : (lst a b).length ≤ (lst a (b.drop (k + 1))).length + 1
      · rw [lst_take h hl] at hlen ⊢
        refine ⟨g_take a1 k1, hlen, fun l' hl' hn => ?_⟩
        rw [Bool.eq_false_iff, Ne]
        intro hless
        rcases g_cases hl' with ⟨r, rfl, hr⟩ | ⟨y, r, hy, rfl, hr⟩
        · cases r with
          | nil =>
            rw [← hlen] at hn
            simp [sh] at hn
          | cons p r =>
            obtain ⟨X, Y, u, rfl, _⟩ := hr
            rw [sh_cons, lessB_cons] at hless
            simp only at hless
            omega
        · have hy' := a2 y hy
          rw [lessB_cons] at hless
          simp only at hless
          rcases hless with hless | ⟨_, hless | ⟨e, hless⟩⟩
          · omega
          · omega
          · obtain rfl : y = k := by omega
            rw [lessB_sh] at hless
            have hn2 : r.length = lcs a (b.drop (y + 1)) := by
              rw [← hlen] at hn
              simp only [List.length_cons, sh_length] at hn
              rw [← k2]
              omega
            rw [k3 r hr hn2] at hless
            cases hless
      · rw [lst_skip h hl] at hlen ⊢
        refine ⟨g_skip g1, hlen, fun l' hl' hn => ?_⟩
        rcases g_cases hl' with ⟨r, rfl, hr⟩ | ⟨y, r, hy, rfl, hr⟩
        · rw [lessB_sh]
          rw [← hlen, sh_length, sh_length, g2] at hn
          exact g3 r hr hn
        · exfalso
          have hy' := a2 y hy
          have h1 := g_le hr
          have h2 : lcs a (b.drop (y + 1)) ≤ lcs a (b.drop (k + 1)) := lcs_mono (List.Sublist.refl _) (by
            rw [show y + 1 = (k + 1) + (y - k) by omega, ← List.drop_drop]
            exact List.drop_sublist _ _)
          rw [← hlen, sh_length] at hn
          simp only [List.length_cons, sh_length] at hn
          rw [k2] at hl
          omega
theorem lst_of {a b : List Int} {l : List Pr} (h : Lea a b l) : l = lst a b := h.unique (lst_lea a b)

/-- Where the second list is parted when the first one is. -/
def spl : List Int → List Int → Nat → Nat
  | _, _, 0 => 0
  | [], _, _ + 1 => 0
  | x :: a, b, c + 1 =>
    match at1 x b with
    | none => spl a b c
    | some k => if (lst a b).length ≤ (lst a (b.drop (k + 1))).length + 1 then k + 1 + spl a (b.drop (k + 1)) c else spl a b c
theorem spl_zero (a b : List Int) : spl a b 0 = 0 := by cases a <;> rfl
theorem spl_no {x : Int} {a b : List Int} {c : Nat} (h : at1 x b = none) : spl (x :: a) b (c + 1) = spl a b c := by rw [spl, h]
theorem spl_take {x : Int} {a b : List Int} {c k : Nat} (h : at1 x b = some k) (hl : (lst a b).length ≤ (lst a (b.drop (k + 1))).length + 1) : spl (x :: a) b (c + 1) = k + 1 + spl a (b.drop (k + 1)) c := by rw [spl, h]; exact if_pos hl
theorem spl_skip {x : Int} {a b : List Int} {c k : Nat} (h : at1 x b = some k) (hl : ¬ (lst a b).length ≤ (lst a (b.drop (k + 1))).length + 1) : spl (x :: a) b (c + 1) = spl a b c := by rw [spl, h]; exact if_neg hl
theorem spl_le : ∀ (a b : List Int) (c : Nat), spl a b c ≤ b.length
  | a, b, 0 => by rw [spl_zero]; exact Nat.zero_le _
  | [], b, c + 1 => Nat.zero_le _
  | x :: a, b, c + 1 => by
    cases h : at1 x b with
    | none => rw [spl_no h]; exact spl_le a b c
    | some k =>
      have hk := (List.getElem?_eq_some_iff.1 (at1_some h).1).1
      by_cases hl : (lst a b).length ≤ (lst a (b.drop (k + 1))).length + 1
      · rw [spl_take h hl]
        have := spl_le a (b.drop (k + 1)) c
        rw [List.length_drop] at this
        omega
      · rw [spl_skip h hl]; exact spl_le a b c
theorem lst_parts : ∀ (a b : List Int) (c : Nat), ∃ P, G (a.take c) (b.take (spl a b c)) P ∧ lst a b = P ++ sh c (spl a b c) (lst (a.drop c) (b.drop (spl a b c)))
  | a, b, 0 => ⟨[], trivial, by rw [spl_zero]; simp [sh_zero]⟩
  | [], b, c + 1 => ⟨[], trivial, by simp [lst, sh_nil]⟩
  | x :: a, b, c + 1 => by
    cases h : at1 x b with
    | none =>
      obtain ⟨P, h1, h2⟩ := lst_parts a b c
      rw [spl_no h, lst_no h, h2]
      exact ⟨sh 1 0 P, g_skip h1, by rw [sh_append, sh_sh, Nat.add_comm 1 c, Nat.zero_add]; rfl⟩
    | some k =>
      obtain ⟨a1, _⟩ := at1_some h
      have hk := (List.getElem?_eq_some_iff.1 a1).1
      by_cases hl : (lst a b).length ≤ (lst a (b.drop (k + 1))).length + 1
      · obtain ⟨P, h1, h2⟩ := lst_parts a (b.drop (k + 1)) c
        rw [spl_take h hl, lst_take h hl, h2]
        refine ⟨(0, (k : Int)) :: sh 1 (k + 1) P, ?_, ?_⟩
        · refine g_take (a := a.take c) ?_ ?_
          · rw [List.getElem?_take, if_pos (by omega)]; exact a1
          · rw [List.drop_take, show k + 1 + spl a (b.drop (k + 1)) c - (k + 1) = spl a (b.drop (k + 1)) c by omega]
            exact h1
        · rw [sh_append, sh_sh, Nat.add_comm 1 c, List.drop_drop]
          rfl
      · obtain ⟨P, h1, h2⟩ := lst_parts a b c
        rw [spl_skip h hl, lst_skip h hl, h2]
        exact ⟨sh 1 0 P, g_skip h1, by rw [sh_append, sh_sh, Nat.add_comm 1 c, Nat.zero_add]; rfl⟩
/-- Both parts of the least list are the least lists of their halves. -/
theorem lst_cut (a b : List Int) (c : Nat) : lst a b = lst (a.take c) (b.take (spl a b c)) ++ sh c (spl a b c) (lst (a.drop c) (b.drop (spl a b c))) := by
  obtain ⟨P, h1, h2⟩ := lst_parts a b c
  have hlea := lst_lea a b
  suffices e : P = lst (a.take c) (b.take (spl a b c)) by rw [h2, e]
  generalize spl a b c = j at *
  have hlen := hlea.2.1
  rw [h2, List.length_append, sh_length] at hlen
  have t1 := lst_lea (a.take c) (b.take j)
  have t2 := g_le (g_join t1.1 (lst_lea (a.drop c) (b.drop j)).1)
  rw [List.length_append, sh_length, t1.2.1] at t2
  have t3 := g_le h1
  refine lst_of ⟨h1, by omega, fun l' hl' hn => ?_⟩
  rw [Bool.eq_false_iff, Ne]
  intro hless
  have g := hlea.2.2 _ (g_join hl' (lst_lea (a.drop c) (b.drop j)).1) (by rw [List.length_append, sh_length]; omega)
  rw [h2, lessB_app _ _ (by omega) hless] at g
  cases g

/-! The first pair. -/
theorem lst_same (x : Int) (a b : List Int) : lst (x :: a) (x :: b) = (0, 0) :: sh 1 1 (lst a b) := by
  have h : at1 x (x :: b) = some 0 := by rw [at1, if_pos rfl]
  refine lst_take h ?_
  rw [lst_length, lst_length]
  have := lcs_cons_le x b a
  rw [lcs_comm, lcs_comm b a] at this
  exact this
theorem lst_nil_right : ∀ a : List Int, lst a [] = []
  | [] => rfl
  | x :: a => by rw [lst_no rfl, lst_nil_right a]; rfl
theorem lst_one_no {x : Int} {b : List Int} (h : at1 x b = none) : lst [x] b = [] := by rw [lst_no h]; rfl
theorem lst_one {x : Int} {b : List Int} {k : Nat} (h : at1 x b = some k) : lst [x] b = [(0, (k : Int))] := by rw [lst_take h (by simp [lst])]; rfl
theorem lx_drop (a b : List Int) (i j x y : Nat) : lx (a.drop i) (b.drop j) x y = lx a b (i + x) (j + y) := by simp [lx, List.drop_drop]
theorem lst_head : ∀ {a b : List Int} {L : Nat}, lcs a b = L + 1 → ∃ x y : Nat, First a b 0 0 L x y ∧ lst a b = ((x : Int), (y : Int)) :: sh (x + 1) (y + 1) (lst (a.drop (x + 1)) (b.drop (y + 1)))
  | [], b, L, h => by rw [lcs_nil_left] at h; omega
  | z :: a, b, L, hL => by
    have skip : lst (z :: a) b = sh 1 0 (lst a b) → lcs a b = L + 1 → (∀ y : Nat, b[y]? = some z → lcs a (b.drop (y + 1)) = L → False) → ∃ x y : Nat, First (z :: a) b 0 0 L x y ∧ lst (z :: a) b = ((x : Int), (y : Int)) :: sh (x + 1) (y + 1) (lst ((z :: a).drop (x + 1)) (b.drop (y + 1))) := by
      intro e1 e2 e3
      obtain ⟨x, y, ⟨f1, f2, ⟨v, p1, p2, p3⟩, f4⟩, e⟩ := lst_head e2
      refine ⟨x + 1, y, ⟨Nat.zero_le _, Nat.zero_le _, ⟨v, by simpa using p1, p2, p3⟩, fun x' y' _ _ hp => ?_⟩, ?_⟩
      · obtain ⟨v', q1, q2, q3⟩ := hp
        cases x' with
        | zero =>
          simp at q1
          subst q1
          exact (e3 y' q2 (by simpa [lx] using q3)).elim
        | succ x' =>
          have := f4 x' y' (Nat.zero_le _) (Nat.zero_le _) ⟨v', by simpa using q1, q2, q3⟩
          omega
      · rw [e1, e, sh_cons, sh_sh]
        congr 1
        rw [Nat.add_comm 1 (x + 1), Nat.zero_add]
        rfl
    cases h : at1 z b with
    | none =>
      rw [lcs_no a h] at hL
      exact skip (lst_no h) hL fun y hy _ => at1_none h y hy
    | some k =>
      obtain ⟨a1, a2⟩ := at1_some h
      rw [lcs_yes a h] at hL
      by_cases hl : (lst a b).length ≤ (lst a (b.drop (k + 1))).length + 1
      · have e := lst_take h hl
        rw [lst_length, lst_length] at hl
        refine ⟨0, k, ⟨Nat.le_refl _, Nat.zero_le _, ⟨z, rfl, a1, ?_⟩, fun x' y' _ _ hp => ?_⟩, e⟩
        · show lcs a (b.drop (k + 1)) = L
          omega
        · obtain ⟨v', q1, q2, q3⟩ := hp
          cases x' with
          | zero =>
            simp at q1
            subst q1
            exact .inr ⟨rfl, a2 y' q2⟩
          | succ x' => exact .inl (by omega)
      · have e := lst_skip h hl
        rw [lst_length, lst_length] at hl
        refine skip e (by omega) fun y hy hq => ?_
        have hy' := a2 y hy
        have h2 : lcs a (b.drop (y + 1)) ≤ lcs a (b.drop (k + 1)) := lcs_mono (List.Sublist.refl _) (by
          rw [show y + 1 = (k + 1) + (y - k) by omega, ← List.drop_drop]
          exact List.drop_sublist _ _)
        omega
theorem First.unique {a b : List Int} {i j L x y x' y' : Nat} (h : First a b i j L x y) (h' : First a b i j L x' y') : x = x' ∧ y = y' := by
  obtain ⟨h1, h2, h3, h4⟩ := h
  obtain ⟨k1, k2, k3, k4⟩ := h'
  have := h4 x' y' k1 k2 k3
  have := k4 x y h1 h2 h3
  omega
theorem first_drop {a b : List Int} {i j L x y : Nat} (h : First (a.drop i) (b.drop j) 0 0 L x y) : First a b i j L (i + x) (j + y) := by
  obtain ⟨_, _, ⟨v, p1, p2, p3⟩, h4⟩ := h
  refine ⟨by omega, by omega, ⟨v, by rw [List.getElem?_drop] at p1; exact p1, by rw [List.getElem?_drop] at p2; exact p2, by rw [← p3, lx_drop]; rfl⟩, fun x' y' g1 g2 hp => ?_⟩
  obtain ⟨v', q1, q2, q3⟩ := hp
  obtain ⟨x'', rfl⟩ := Nat.exists_eq_add_of_le g1
  obtain ⟨y'', rfl⟩ := Nat.exists_eq_add_of_le g2
  have := h4 x'' y'' (Nat.zero_le _) (Nat.zero_le _) ⟨v', by rw [List.getElem?_drop]; exact q1, by rw [List.getElem?_drop]; exact q2, by rw [lx_drop]; exact q3⟩
  omega
theorem chain_lst {a b : List Int} {l : List Pr} {i j : Nat} (h : Chain a b l i j) : lst a b = l ++ sh i j (lst (a.drop i) (b.drop j)) := by
  induction h with
  | nil => simp [sh_zero]
  | @snoc l i j L x y _ h1 h2 ih =>
    obtain ⟨x', y', hf, e⟩ := lst_head (a := a.drop i) (b := b.drop j) (L := L) h1
    obtain ⟨rfl, rfl⟩ := (first_drop hf).unique h2
    rw [ih, e, sh_cons, sh_sh, List.append_assoc, List.drop_drop, List.drop_drop]
    congr 1
    show _ :: _ = _ :: _
    congr 1
    simp only [Prod.mk.injEq]
    omega
theorem chain_end {a b : List Int} {l : List Pr} {i j : Nat} (h : Chain a b l i j) (hl : l.length = lcs a b) : l = lst a b := by
  have e := chain_lst h
  have := congrArg List.length e
  rw [lst_length, List.length_append] at this
  rw [e, List.eq_nil_of_length_eq_zero (show (sh i j (lst (a.drop i) (b.drop j))).length = 0 by omega), List.append_nil]
/-- Behind each of its pairs stands the least list of what is behind. -/
theorem lst_rest : ∀ {k : Nat} {a b : List Int} {p : Pr}, (lst a b)[k]? = some p → ∃ x y : Nat, p = ((x : Int), (y : Int)) ∧ x < a.length ∧ y < b.length ∧ (lst a b).drop (k + 1) = sh (x + 1) (y + 1) (lst (a.drop (x + 1)) (b.drop (y + 1)))
  | k, a, b, p, h => by
    have hk := (List.getElem?_eq_some_iff.1 h).1
    rw [lst_length] at hk
    obtain ⟨x, y, hf, e⟩ := lst_head (a := a) (b := b) (L := lcs a b - 1) (by omega)
    obtain ⟨hx, hy⟩ := hf.2.2.1.lt
    rw [e] at h ⊢
    cases k with
    | zero =>
      simp at h
      exact ⟨x, y, h.symm, hx, hy, rfl⟩
    | succ k =>
      rw [List.getElem?_cons_succ] at h
      have hk2 : k < (lst (a.drop (x + 1)) (b.drop (y + 1))).length := by
        have := (List.getElem?_eq_some_iff.1 h).1
        rwa [sh_length] at this
      obtain ⟨x', y', e', hx', hy', ed⟩ := lst_rest (List.getElem?_eq_getElem hk2)
      rw [sh_get (List.getElem?_eq_getElem hk2), e'] at h
      rw [List.length_drop] at hx' hy'
      refine ⟨x + 1 + x', y + 1 + y', ?_, by omega, by omega, ?_⟩
      · injection h with h
        rw [← h]
        simp only [Prod.mk.injEq]
        omega
      · rw [List.drop_succ_cons, sh_drop, ed, sh_sh, List.drop_drop, List.drop_drop]
        rfl
/-- With the same put ahead of both. -/
def diag (n : Nat) : List Pr := (List.range n).map fun (k : Nat) => ((k : Int), (k : Int))
theorem diag_succ (n : Nat) : diag (n + 1) = (0, 0) :: sh 1 1 (diag n) := by
  unfold diag sh
  rw [List.range_succ_eq_map]
  simp [Function.comp_def]
theorem lst_front (a b : List Int) : ∀ f : List Int, lst (f ++ a) (f ++ b) = diag f.length ++ sh f.length f.length (lst a b)
  | [] => by simp [diag, sh_zero]
  | x :: f => by
    rw [List.cons_append, List.cons_append, lst_same, lst_front a b f, List.length_cons, diag_succ, sh_append, sh_sh, Nat.add_comm 1 f.length]
    rfl

end Go.Proofs.Ytobijkjonnoeiaa
