/-
  Words and contracts that the proof leans on.
-/
import Derived.Test.YthpinbmimgojnaaM12
import Derived.Test.YthpinbmimgojnaaM13
namespace Go.Proofs.Ythpinbmimgojnaa

/-! ### The shorter list and the longer one -/
def sht (a b : List Int) : List Int := if a.length ≤ b.length then a else b
def lng (a b : List Int) : List Int := if a.length ≤ b.length then b else a
def wdt (a b : List Int) : Nat := (lng a b).length - (sht a b).length
/-- The cost of the whole. -/
def rgt (a b : List Int) : Nat := (sht a b).length - lcs a b
theorem sht_le {a b : List Int} (h : a.length ≤ b.length) : sht a b = a ∧ lng a b = b := ⟨if_pos h, if_pos h⟩
theorem sht_gt {a b : List Int} (h : ¬ a.length ≤ b.length) : sht a b = b ∧ lng a b = a := ⟨if_neg h, if_neg h⟩
theorem sht_len (a b : List Int) : (sht a b).length = min a.length b.length ∧ (lng a b).length = max a.length b.length ∧ (sht a b).length + wdt a b = (lng a b).length ∧ lcs (sht a b) (lng a b) = lcs a b ∧ wdt a b = max a.length b.length - min a.length b.length := by
  unfold wdt
  by_cases h : a.length ≤ b.length
  · rw [(sht_le h).1, (sht_le h).2]
    exact ⟨by omega, by omega, by omega, rfl, by omega⟩
  · rw [(sht_gt h).1, (sht_gt h).2]
    exact ⟨by omega, by omega, by omega, lcs_comm _ _, by omega⟩
theorem rgt_dist (a b : List Int) : dist a b = wdt a b + 2 * rgt a b := by
  obtain ⟨h1, h2, h3, h4, h5⟩ := sht_len a b
  have := lcs_le_left a b
  have := lcs_le_right a b
  unfold dist rgt
  omega
theorem rgt_end (a b : List Int) (p : Int) : fr (sht a b) (lng a b) (wdt a b) p (wdt a b) = (lng a b).length ↔ (rgt a b : Int) ≤ p := by
  obtain ⟨h1, h2, h3, h4, h5⟩ := sht_len a b
  have := fr_end (x := sht a b) (y := lng a b) (p := p) h3
  rw [h4] at this
  exact this
theorem rgt_le (a b : List Int) : rgt a b ≤ (sht a b).length := Nat.sub_le _ _

/-! ### Far -/
def farL (x y : List Int) (W p : Nat) : List Int := (List.range (W + 2 * p + 1)).map fun t : Nat => fr x y W p ((t : Int) - p)
theorem farL_length (x y : List Int) (W p : Nat) : (farL x y W p).length = W + 2 * p + 1 := by simp [farL]
theorem farL_get {x y : List Int} {W p t : Nat} (h : t < W + 2 * p + 1) : (farL x y W p)[t]? = some (fr x y W p ((t : Int) - p)) := by
  unfold farL
  rw [List.getElem?_map, List.getElem?_range h]
  rfl
/-- What Far returns. -/
def farI (a b : List Int) (p : Int) : List Int := if 0 ≤ p ∧ p ≤ ((sht a b).length : Int) then farL (sht a b) (lng a b) (wdt a b) p.toNat else []
theorem farI_in {a b : List Int} {p : Nat} (h : p ≤ (sht a b).length) : farI a b p = farL (sht a b) (lng a b) (wdt a b) p := by
  unfold farI
  rw [if_pos (by omega)]
  simp
theorem farI_out {a b : List Int} {p : Int} (h : ¬ (0 ≤ p ∧ p ≤ ((sht a b).length : Int))) : farI a b p = [] := if_neg h
theorem farI_len {a b : List Int} {p : Nat} (h : p ≤ (sht a b).length) : (farI a b p).length = wdt a b + 2 * p + 1 := by rw [farI_in h, farL_length]
/-- The middle tells the end. -/
theorem farI_mid {a b : List Int} {p : Nat} (h : p ≤ (sht a b).length) : ∃ f : Int, (farI a b p)[wdt a b + p]? = some f ∧ -1 ≤ f ∧ f ≤ (max a.length b.length : Nat) ∧ (f = (max a.length b.length : Nat) ↔ rgt a b ≤ p) := by
  obtain ⟨h1, h2, h3, h4, h5⟩ := sht_len a b
  have hr := rgt_end a b p
  have hl := fr_low (sht a b) (lng a b) (wdt a b) p (wdt a b)
  rw [h2] at hr hl
  refine ⟨_, by rw [farI_in h, farL_get (by omega)]; congr 2; omega, hl.1, hl.2, ?_⟩
  rw [hr]
  omega
/-- The next cost's are at least as far. -/
theorem farI_grow {a b : List Int} {p t : Nat} (h : p + 1 ≤ (sht a b).length) (ht : t < wdt a b + 2 * p + 1) : ∃ f g : Int, (farI a b p)[t]? = some f ∧ (farI a b ((p + 1 : Nat) : Int))[t + 1]? = some g ∧ f ≤ g := by
  refine ⟨_, _, by rw [farI_in (by omega), farL_get ht], by rw [farI_in h, farL_get (by omega)], ?_⟩
  rw [show ((t + 1 : Nat) : Int) - ((p + 1 : Nat) : Int) = (t : Int) - p by omega]
  exact fr_mono _ _ _ _ (by omega)

/-! ### Steps -/
def stN (W : Nat) : Nat → Nat
  | 0 => 0
  | c + 1 => stN W c + (W + 2 * c + 1)
theorem stN_is (W : Nat) : ∀ c, stN W c = c * (W + c)
  | 0 => by simp [stN]
  | c + 1 => by
    rw [stN, stN_is W c]
    simp only [Nat.add_mul, Nat.mul_add, Nat.one_mul, Nat.mul_one]
    omega
theorem stN_le {W c : Nat} (hW : W ≤ 1048576) (hc : c ≤ 1048577) : stN W c ≤ 1048577 * 2097153 := by
  rw [stN_is]
  exact Nat.mul_le_mul hc (by omega)
/-- Most. -/
def mostQ (n m d : Int) : Int :=
  if (0 ≤ n ∧ n ≤ 1048576) ∧ (0 ≤ m ∧ m ≤ 1048576) ∧ (max n m - min n m ≤ d ∧ d ≤ n + m) ∧ (d - (max n m - min n m)) % 2 = 0 then ((d - (max n m - min n m)) / 2 + 1) * (max n m - min n m + (d - (max n m - min n m)) / 2 + 1) else 0
theorem most_dist {a b : List Int} (hn : a.length ≤ 1048576) (hm : b.length ≤ 1048576) : mostQ a.length b.length (dist a b : Nat) = (stN (wdt a b) (rgt a b + 1) : Nat) := by
  obtain ⟨h1, h2, h3, h4, h5⟩ := sht_len a b
  have hd := rgt_dist a b
  have hle := dist_le a b
  have hr := rgt_le a b
  have eq : ((dist a b : Nat) - (max (a.length : Int) b.length - min (a.length : Int) b.length)) / 2 = (rgt a b : Int) := by omega
  have ew : max (a.length : Int) b.length - min (a.length : Int) b.length = (wdt a b : Int) := by omega
  unfold mostQ
  rw [if_pos ⟨⟨by omega, by omega⟩, ⟨by omega, by omega⟩, ⟨by omega, by omega⟩, by omega⟩, eq, ew, stN_is]
  push_cast
  rw [Int.add_assoc]
theorem mostQ_out {n m d : Int} (h : ¬ ((0 ≤ n ∧ n ≤ 1048576) ∧ (0 ≤ m ∧ m ≤ 1048576) ∧ (max n m - min n m ≤ d ∧ d ≤ n + m) ∧ (d - (max n m - min n m)) % 2 = 0)) : mostQ n m d = 0 := if_neg h

/-! ### Good lists, on the way there -/
/-- Pairs ahead of a point, as many as its cost lets be. -/
def Pth (x y : List Int) (W : Nat) (p : Int) (i j : Nat) (l : List Pr) : Prop := OkTo x y l i j ∧ (i : Int) + ((j - (i + W) : Nat) : Int) ≤ l.length + p
theorem pth_start {x y : List Int} {W : Nat} {p : Int} {i j : Nat} (h : (i : Int) + ((j - (i + W) : Nat) : Int) ≤ p) : Pth x y W p i j [] := ⟨⟨rfl, fun p hp => by cases hp⟩, by simpa using h⟩
theorem pth_down {x y : List Int} {W : Nat} {p q : Int} {i j : Nat} {l : List Pr} (h : Pth x y W p i j l) (hq : (p : Int) + 1 ≤ q ∨ (i + W < j ∧ p ≤ q)) : Pth x y W q (i + 1) j l := by
  refine ⟨ok_more h.1 (by omega) (Nat.le_refl _), ?_⟩
  have := h.2
  omega
theorem pth_right {x y : List Int} {W : Nat} {p q : Int} {i j : Nat} {l : List Pr} (h : Pth x y W p i j l) (hq : (p : Int) + 1 ≤ q ∨ (j < i + W ∧ p ≤ q)) : Pth x y W q i (j + 1) l := by
  refine ⟨ok_more h.1 (Nat.le_refl _) (by omega), ?_⟩
  have := h.2
  omega
theorem pth_same {x y : List Int} {W : Nat} {p : Int} {i j : Nat} {l : List Pr} {u : Int} (h : Pth x y W p i j l) (h1 : x[i]? = some u) (h2 : y[j]? = some u) : Pth x y W p (i + 1) (j + 1) (l ++ [((i : Int), (j : Int))]) := by
  refine ⟨ok_snoc h.1 h1 h2, ?_⟩
  have := h.2
  rw [List.length_append, List.length_singleton]
  omega
def runL (i j d : Nat) : List Pr := (List.range d).map fun t : Nat => (((i + t : Nat) : Int), ((j + t : Nat) : Int))
theorem runL_length (i j d : Nat) : (runL i j d).length = d := by simp [runL]
theorem runL_succ (i j d : Nat) : runL i j (d + 1) = runL i j d ++ [(((i + d : Nat) : Int), ((j + d : Nat) : Int))] := by simp [runL, List.range_succ]
theorem dn_alike {x y : List Int} {i j d : Nat} (h : d < dnN x y i j) : ∃ u, x[i + d]? = some u ∧ y[j + d]? = some u := by
  obtain ⟨l1, l2⟩ := dnN_le x y i j
  have e0 := congrArg (fun l => l[d]?) (dn_take x y i j)
  simp only [List.getElem?_take, if_pos h, List.getElem?_drop] at e0
  have g1 : x[i + d]? = some (x[i + d]'(by omega)) := List.getElem?_eq_getElem _
  exact ⟨_, g1, by rw [← e0]; exact g1⟩
theorem pth_run {x y : List Int} {W : Nat} {p : Int} {i j : Nat} {l : List Pr} (h : Pth x y W p i j l) : ∀ d, d ≤ dnN x y i j → Pth x y W p (i + d) (j + d) (l ++ runL i j d)
  | 0, _ => by simpa [runL] using h
  | d + 1, hd => by
    obtain ⟨u, h1, h2⟩ := dn_alike (show d < dnN x y i j by omega)
    rw [runL_succ, ← List.append_assoc]
    exact pth_same (pth_run h d (by omega)) h1 h2
theorem pth_end {x y : List Int} {W : Nat} {l : List Pr} (hW : x.length + W = y.length) (h : Pth x y W ((x.length - lcs x y : Nat) : Int) x.length y.length l) : goodB x y l = true ∧ l.length = lcs x y := by
  have h1 := g_le (good_iff.1 h.1.1)
  have h2 := h.2
  have := lcs_le_left x y
  exact ⟨h.1.1, by omega⟩

/-! ### Good lists, on the way back -/
/-- Pairs from a point on, as many as what is left of the cost lets be. -/
def Bth (x y : List Int) (W : Nat) (p : Int) (i j : Nat) (l : List Pr) : Prop := Ga x y i j l ∧ (lcs x y : Int) + p ≤ l.length + ((i : Int) + ((j - (i + W) : Nat) : Int))
theorem bth_start {x y : List Int} {W : Nat} (hW : x.length + W = y.length) : Bth x y W ((x.length - lcs x y : Nat) : Int) x.length y.length [] := by
  refine ⟨trivial, ?_⟩
  have := lcs_le_left x y
  show _ ≤ ((0 : Nat) : Int) + _
  omega
theorem bth_up {x y : List Int} {W : Nat} {p q : Int} {i j : Nat} {l : List Pr} (h : Bth x y W p (i + 1) j l) (hq : q + 1 ≤ p ∨ (i + W < j ∧ q ≤ p)) : Bth x y W q i j l := by
  refine ⟨ga_mono h.1 (by omega) (Nat.le_refl _), ?_⟩
  have := h.2
  omega
theorem bth_left {x y : List Int} {W : Nat} {p q : Int} {i j : Nat} {l : List Pr} (h : Bth x y W p i (j + 1) l) (hq : q + 1 ≤ p ∨ (j < i + W ∧ q ≤ p)) : Bth x y W q i j l := by
  refine ⟨ga_mono h.1 (Nat.le_refl _) (by omega), ?_⟩
  have := h.2
  omega
theorem bth_same {x y : List Int} {W : Nat} {p : Int} {i j : Nat} {l : List Pr} {u : Int} (h : Bth x y W p (i + 1) (j + 1) l) (h1 : x[i]? = some u) (h2 : y[j]? = some u) : Bth x y W p i j (((i : Int), (j : Int)) :: l) := by
  refine ⟨⟨i, j, u, rfl, Nat.le_refl _, Nat.le_refl _, h1, h2, h.1⟩, ?_⟩
  have := h.2
  rw [List.length_cons]
  omega
theorem bth_end {x y : List Int} {W : Nat} {p : Int} {j : Nat} {l : List Pr} (h : Bth x y W p 0 j l) (hp : ((j - W : Nat) : Int) ≤ p) : goodB x y l = true ∧ l.length = lcs x y := by
  have hg : G x y l := ga_mono h.1 (Nat.le_refl _) (Nat.zero_le _)
  have h1 := g_le hg
  have h2 := h.2
  rw [Nat.zero_add] at h2
  exact ⟨good_iff.2 hg, by omega⟩
theorem bth_end' {x y : List Int} {W : Nat} {p : Int} {i : Nat} {l : List Pr} (h : Bth x y W p i 0 l) (hp : (i : Int) ≤ p) : goodB x y l = true ∧ l.length = lcs x y := by
  have hg : G x y l := ga_mono h.1 (Nat.zero_le _) (Nat.le_refl _)
  have h1 := g_le hg
  have h2 := h.2
  exact ⟨good_iff.2 hg, by omega⟩

end Go.Proofs.Ythpinbmimgojnaa
