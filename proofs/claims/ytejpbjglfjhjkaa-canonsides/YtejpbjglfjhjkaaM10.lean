/-
  Words and contracts that the proof leans on.
-/
import Derived.Test.YtejpbjglfjhjkaaM9
import Derived.Test.YtejpbjglfjhjkaaM3
import Derived.Test.YtejpbjglfjhjkaaM4
import Derived.BigRegion
import Derived.Test.YtejpbjglfjhjkaaM7
namespace Go.Proofs.Ytejpbjglfjhjkaa
open Go.RowKit

end Go.Proofs.Ytejpbjglfjhjkaa

namespace Go.Proofs.Ytejpbjglfjhjkaa
open Go.RowKit

theorem lx_lcs (a b : List Int) : lx a b 0 0 = lcs a b := by simp [lx]

end Go.Proofs.Ytejpbjglfjhjkaa

namespace Go.Proofs.Ytejpbjglfjhjkaa
open Go.RowKit

/-- x, y is alike, and behind it there are L more. -/
def Pz (a b : List Int) (L x y : Nat) : Prop := ∃ v, a[x]? = some v ∧ b[y]? = some v ∧ lx a b (x + 1) (y + 1) = L
/-- The first one from i, j on. -/
def First (a b : List Int) (i j L x y : Nat) : Prop := i ≤ x ∧ j ≤ y ∧ Pz a b L x y ∧ ∀ x' y', i ≤ x' → j ≤ y' → Pz a b L x' y' → x < x' ∨ x = x' ∧ y ≤ y'
theorem Pz.lt {a b : List Int} {L x y : Nat} (h : Pz a b L x y) : x < a.length ∧ y < b.length := by
  obtain ⟨v, h1, h2, _⟩ := h
  exact ⟨(List.getElem?_eq_some_iff.1 h1).1, (List.getElem?_eq_some_iff.1 h2).1⟩

end Go.Proofs.Ytejpbjglfjhjkaa

namespace Go.Proofs.Ytejpbjglfjhjkaa
open Go.RowKit

end Go.Proofs.Ytejpbjglfjhjkaa

namespace Go.Proofs.Ytejpbjglfjhjkaa

/-- The least list. -/
def lst : List Int → List Int → List Pr
  | [], _ => []
  | x :: a, b =>
    match at1 x b with
    | none => sh 1 0 (lst a b)
    | some k => if (lst a b).length ≤ (lst a (b.drop (k + 1))).length + 1 then (0, (k : Int)) :: sh 1 (k + 1) (lst a (b.drop (k + 1))) else sh 1 0 (lst a b)
theorem lst_no {x : Int} {a b : List Int} (h : at1 x b = none) : lst (x :: a) b = sh 1 0 (lst a b) := by rw [lst, h]
theorem lst_take {x : Int} {a b : List Int} {k : Nat} (h : at1 x b = some k) (hl : (lst a b).length ≤ (lst a (b.drop (k + 1))).length + 1) : lst (x :: a) b = (0, (k : Int)) :: sh 1 (k + 1) (lst a (b.drop (k + 1))) := by rw [lst, h]; exact if_pos hl
theorem lst_skip {x : Int} {a b : List Int} {k : Nat} (h : at1 x b = some k) (hl : ¬ (lst a b).length ≤ (lst a (b.drop (k + 1))).length + 1) : lst (x :: a) b = sh 1 0 (lst a b) := by rw [lst, h]; exact if_neg hl
theorem lst_length : ∀ a b : List Int, (lst a b).length = lcs a b
  | [], b => by rw [lcs_nil_left]; rfl
  | x :: a, b => by
    cases h : at1 x b with
    | none => rw [lst_no h, sh_length, lst_length a b, lcs_no a h]
    | some k =>
      by_cases hl : (lst a b).length ≤ (lst a (b.drop (k + 1))).length + 1
      · rw [lst_take h hl, List.length_cons, sh_length, lcs_yes a h]
        rw [lst_length a b, lst_length a _] at hl
        rw [lst_length]
        omega
      · rw [lst_skip h hl, sh_length, lcs_yes a h]
        rw [lst_length a b, lst_length a _] at hl
        rw [lst_length]
        omega

/-- A list is the least of the longest ones. -/
def Lea (a b : List Int) (l : List Pr) : Prop := G a b l ∧ l.length = lcs a b ∧ ∀ l', G a b l' → l'.length = lcs a b → lessB l' l = false
theorem Lea.unique {a b : List Int} {l l' : List Pr} (h : Lea a b l) (h' : Lea a b l') : l = l' := lessB_total (h'.2.2 l h.1 h.2.1) (h.2.2 l' h'.1 h'.2.1)
theorem lst_lea : ∀ a b : List Int, Lea a b (lst a b)
  | [], b => ⟨trivial, by rw [lcs_nil_left]; rfl, fun l' h _ => by rw [g_nil h]; rfl⟩
  | x :: a, b => by
    obtain ⟨g1, g2, g3⟩ := lst_lea a b
    have hlen := lst_length (x :: a) b
    cases h : at1 x b with
    | none =>
      rw [lst_no h] at hlen ⊢
      refine ⟨g_skip g1, hlen, fun l' hl' hn => ?_⟩
      rcases g_cases hl' with ⟨r, rfl, hr⟩ | ⟨y, r, hy, _⟩
      · rw [lessB_sh]
        rw [sh_length, lcs_no a h] at hn
        exact g3 r hr hn
      · exact absurd hy (at1_none h y)
    | some k =>
      obtain ⟨a1, a2⟩ := at1_some h
      obtain ⟨k1, k2, k3⟩ := lst_lea a (b.drop (k + 1))
      by_cases hl : (lst a b).length ≤ (lst a (b.drop (k + 1))).length + 1
      · rw [lst_take h hl] at hlen ⊢
        refine ⟨g_take a1 k1, hlen, fun l' hl' hn => ?_⟩
        rw [Bool.eq_false_iff, Ne]
        intro hless
        rcases g_cases hl' with ⟨r, rfl, hr⟩ | ⟨y, r, hy, rfl, hr⟩
        · cases r with
          | nil =>
            rw [← hlen] at hn
            simp [sh] at hn
          | cons p r =>
            obtain ⟨X, Y, u, rfl, _⟩ := hr
            rw [sh_cons, lessB_cons] at hless
            simp only at hless
            omega
        · have hy' := a2 y hy
          rw [lessB_cons] at hless
          simp only at hless
          rcases hless with hless | ⟨_, hless | ⟨e, hless⟩⟩
          · omega
          · omega
          · obtain rfl : y = k := by omega
            rw [lessB_sh] at hless
            have hn2 : r.length = lcs a (b.drop (y + 1)) := by
              rw [← hlen] at hn
              simp only [List.length_cons, sh_length] at hn
              rw [← k2]
              omega
            rw [k3 r hr hn2] at hless
            cases hless
      · rw [lst_skip h hl] at hlen ⊢
        refine ⟨g_skip g1, hlen, fun l' hl' hn => ?_⟩
        rcases g_cases hl' with ⟨r, rfl, hr⟩ | ⟨y, r, hy, rfl, hr⟩
        · rw [lessB_sh]
          rw [← hlen, sh_length, sh_length, g2] at hn
          exact g3 r hr hn
        · exfalso
          have hy' := a2 y hy
          have h1 := g_le hr
          have h2 : lcs a (b.drop (y + 1)) ≤ lcs a (b.drop (k + 1)) := lcs_mono (List.Sublist.refl _) (by
            rw [show y + 1 = (k + 1) + (y - k) by omega, ← List.drop_drop]
            exact List.drop_sublist _ _)
          rw [← hlen, sh_length] at hn
          simp only [List.length_cons, sh_length] at hn
          rw [k2] at hl
          omega
theorem lst_of {a b : List Int} {l : List Pr} (h : Lea a b l) : l = lst a b := h.unique (lst_lea a b)

/-- Where the second list is parted when the first one is. -/
def spl : List Int → List Int → Nat → Nat
  | _, _, 0 => 0
  | [], _, _ + 1 => 0
  | x :: a, b, c + 1 =>
    match at1 x b with
    | none => spl a b c
    | some k => if (lst a b).length ≤ (lst a (b.drop (k + 1))).length + 1 then k + 1 + spl a (b.drop (k + 1)) c else spl a b c
theorem spl_zero (a b : List Int) : spl a b 0 = 0 := by cases a <;> rfl
theorem spl_no {x : Int} {a b : List Int} {c : Nat} (h : at1 x b = none) : spl (x :: a) b (c + 1) = spl a b c := by rw [spl, h]
theorem spl_take {x : Int} {a b : List Int} {c k : Nat} (h : at1 x b = some k) (hl : (lst a b).length ≤ (lst a (b.drop (k + 1))).length + 1) : spl (x :: a) b (c + 1) = k + 1 + spl a (b.drop (k + 1)) c := by rw [spl, h]; exact if_pos hl
theorem spl_skip {x : Int} {a b : List Int} {c k : Nat} (h : at1 x b = some k) (hl : ¬ (lst a b).length ≤ (lst a (b.drop (k + 1))).length + 1) : spl (x :: a) b (c + 1) = spl a b c := by rw [spl, h]; exact if_neg hl
theorem spl_le : ∀ (a b : List Int) (c : Nat), spl a b c ≤ b.length
  | a, b, 0 => by rw [spl_zero]; exact Nat.zero_le _
  | [], b, c + 1 => Nat.zero_le _
  | x :: a, b, c + 1 => by
    cases h : at1 x b with
    | none => rw [spl_no h]; exact spl_le a b c
    | some k =>
      have hk := (List.getElem?_eq_some_iff.1 (at1_some h).1).1
      by_cases hl : (lst a b).length ≤ (lst a (b.drop (k + 1))).length + 1
      · rw [spl_take h hl]
        have := spl_le a (b.drop (k + 1)) c
        rw [List.length_drop] at this
        omega
      · rw [spl_skip h hl]; exact spl_le a b c
theorem lst_parts : ∀ (a b : List Int) (c : Nat), ∃ P, G (a.take c) (b.take (spl a b c)) P ∧ lst a b = P ++ sh c (spl a b c) (lst (a.drop c) (b.drop (spl a b c)))
  | a, b, 0 => ⟨[], trivial, by rw [spl_zero]; simp [sh_zero]⟩
  | [], b, c + 1 => ⟨[], trivial, by simp [lst, sh_nil]⟩
  | x :: a, b, c + 1 => by
    cases h : at1 x b with
    | none =>
      obtain ⟨P, h1, h2⟩ := lst_parts a b c
      rw [spl_no h, lst_no h, h2]
      exact ⟨sh 1 0 P, g_skip h1, by rw [sh_append, sh_sh, Nat.add_comm 1 c, Nat.zero_add]; rfl⟩
    | some k =>
      obtain ⟨a1, _⟩ := at1_some h
      have hk := (List.getElem?_eq_some_iff.1 a1).1
      by_cases hl : (lst a b).length ≤ (lst a (b.drop (k + 1))).length + 1
      · obtain ⟨P, h1, h2⟩ := lst_parts a (b.drop (k + 1)) c
        rw [spl_take h hl, lst_take h hl, h2]
        refine ⟨(0, (k : Int)) :: sh 1 (k + 1) P, ?_, ?_⟩
        · refine g_take (a := a.take c) ?_ ?_
          · rw [List.getElem?_take, if_pos (by omega)]; exact a1
          · rw [List.drop_take, show k + 1 + spl a (b.drop (k + 1)) c - (k + 1) = spl a (b.drop (k + 1)) c by omega]
            exact h1
        · rw [sh_append, sh_sh, Nat.add_comm 1 c, List.drop_drop]
          rfl
      · obtain ⟨P, h1, h2⟩ := lst_parts a b c
        rw [spl_skip h hl, lst_skip h hl, h2]
        exact ⟨sh 1 0 P, g_skip h1, by rw [sh_append, sh_sh, Nat.add_comm 1 c, Nat.zero_add]; rfl⟩
/-- Both parts of the least list are the least lists of their halves. -/
theorem lst_cut (a b : List Int) (c : Nat) : lst a b = lst (a.take c) (b.take (spl a b c)) ++ sh c (spl a b c) (lst (a.drop c) (b.drop (spl a b c))) := by
  obtain ⟨P, h1, h2⟩ := lst_parts a b c
  have hlea := lst_lea a b
  suffices e : P = lst (a.take c) (b.take (spl a b c)) by rw [h2, e]
  generalize spl a b c = j at *
  have hlen := hlea.2.1
  rw [h2, List.length_append, sh_length] at hlen
  have t1 := lst_lea (a.take c) (b.take j)
  have t2 := g_le (g_join t1.1 (lst_lea (a.drop c) (b.drop j)).1)
  rw [List.length_append, sh_length, t1.2.1] at t2
  have t3 := g_le h1
  refine lst_of ⟨h1, by omega, fun l' hl' hn => ?_⟩
  rw [Bool.eq_false_iff, Ne]
  intro hless
  have g := hlea.2.2 _ (g_join hl' (lst_lea (a.drop c) (b.drop j)).1) (by rw [List.length_append, sh_length]; omega)
  rw [h2, lessB_app _ _ (by omega) hless] at g
  cases g

/-! The first pair. -/
theorem lst_same (x : Int) (a b : List Int) : lst (x :: a) (x :: b) = (0, 0) :: sh 1 1 (lst a b) := by
  have h : at1 x (x :: b) = some 0 := by rw [at1, if_pos rfl]
  refine lst_take h ?_
  rw [lst_length, lst_length]
  have := lcs_cons_le x b a
  rw [lcs_comm, lcs_comm b a] at this
  exact this
theorem lst_nil_right : ∀ a : List Int, lst a [] = []
  | [] => rfl
  | x :: a => by rw [lst_no rfl, lst_nil_right a]; rfl
theorem lst_one_no {x : Int} {b : List Int} (h : at1 x b = none) : lst [x] b = [] := by rw [lst_no h]; rfl
theorem lst_one {x : Int} {b : List Int} {k : Nat} (h : at1 x b = some k) : lst [x] b = [(0, (k : Int))] := by rw [lst_take h (by simp [lst])]; rfl
theorem First.unique {a b : List Int} {i j L x y x' y' : Nat} (h : First a b i j L x y) (h' : First a b i j L x' y') : x = x' ∧ y = y' := by
  obtain ⟨h1, h2, h3, h4⟩ := h
  obtain ⟨k1, k2, k3, k4⟩ := h'
  have := h4 x' y' k1 k2 k3
  have := k4 x y h1 h2 h3
  omega
/-- With the same put ahead of both. -/
def diag (n : Nat) : List Pr := (List.range n).map fun (k : Nat) => ((k : Int), (k : Int))
theorem diag_succ (n : Nat) : diag (n + 1) = (0, 0) :: sh 1 1 (diag n) := by
  unfold diag sh
  rw [List.range_succ_eq_map]
  simp [Function.comp_def]
theorem lst_front (a b : List Int) : ∀ f : List Int, lst (f ++ a) (f ++ b) = diag f.length ++ sh f.length f.length (lst a b)
  | [] => by simp [diag, sh_zero]
  | x :: f => by
    rw [List.cons_append, List.cons_append, lst_same, lst_front a b f, List.length_cons, diag_succ, sh_append, sh_sh, Nat.add_comm 1 f.length]
    rfl

end Go.Proofs.Ytejpbjglfjhjkaa
