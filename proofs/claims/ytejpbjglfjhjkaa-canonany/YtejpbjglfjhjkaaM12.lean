/-
  Words and contracts that the proof leans on.
-/
import Derived.Test.YtejpbjglfjhjkaaM10
import Derived.Test.YtejpbjglfjhjkaaM11
namespace Go.Proofs.Ytejpbjglfjhjkaa

/-- What a row may begin with, when t places from hi downwards are done. -/
def wth (x : Int) (b : List Int) (C : Nat → Pr) (hi : Nat) : Nat → Pr
  | 0 => (-1, 0)
  | t + 1 => if b[hi - 1 - t]? = some x then ((C (hi - t)).1 + 1, (C (hi - t)).2) else wth x b C hi t
/-- The cells when t places from hi downwards are done. -/
def rowT (x : Int) (b : List Int) (C : Nat → Pr) (hi t : Nat) : Nat → Pr := fun c =>
  if hi - t ≤ c ∧ c < hi then (if (C c).1 ≤ (wth x b C hi (hi - c)).1 then wth x b C hi (hi - c) else C c) else C c
def rst (C : Nat → Pr) : Nat → Pr := fun c => ((C c).1, (c : Int))
/-- A round of sweep. -/
def stp (b : List Int) (cut down right : Nat) (C : Nat → Pr) (p : Nat × Int) : Nat → Pr :=
  rowT p.2 b (if p.1 + 1 = cut then rst C else C) (min (p.1 + right + 1) b.length) (min (p.1 + right + 1) b.length - (p.1 - down))
def swp (b : List Int) (cut down right : Nat) (ps : List (Nat × Int)) : Nat → Pr := ps.foldl (stp b cut down right) fun _ => (0, 0)

theorem wth_cases (x : Int) (b : List Int) (C : Nat → Pr) (hi : Nat) : ∀ t, t ≤ hi → (wth x b C hi t = (-1, 0) ∧ ∀ y, hi - t ≤ y → y < hi → b[y]? ≠ some x) ∨ ∃ y, hi - t ≤ y ∧ y < hi ∧ b[y]? = some x ∧ (∀ y', hi - t ≤ y' → b[y']? = some x → y ≤ y') ∧ wth x b C hi t = ((C (y + 1)).1 + 1, (C (y + 1)).2)
  | 0, _ => .inl ⟨rfl, fun y h1 h2 => by omega⟩
  | t + 1, ht => by
    rw [wth]
    by_cases e : b[hi - 1 - t]? = some x
    · rw [if_pos e]
      refine .inr ⟨hi - 1 - t, by omega, by omega, e, fun y' h1 _ => by omega, ?_⟩
      rw [show hi - 1 - t + 1 = hi - t by omega]
    · rw [if_neg e]
      rcases wth_cases x b C hi t (by omega) with ⟨h1, h2⟩ | ⟨y, h1, h2, h3, h4, h5⟩
      · refine .inl ⟨h1, fun y g1 g2 => ?_⟩
        by_cases e' : y = hi - 1 - t
        · rw [e']; exact e
        · exact h2 y (by omega) g2
      · refine .inr ⟨y, by omega, h2, h3, fun y' g1 g2 => ?_, h5⟩
        by_cases e' : y' = hi - 1 - t
        · rw [e'] at g2; exact absurd g2 e
        · exact h4 y' (by omega) g2
theorem rowT_in {x : Int} {b : List Int} {C : Nat → Pr} {hi t c : Nat} (h : hi - t ≤ c ∧ c < hi) : rowT x b C hi t c = if (C c).1 ≤ (wth x b C hi (hi - c)).1 then wth x b C hi (hi - c) else C c := if_pos h
theorem rowT_out {x : Int} {b : List Int} {C : Nat → Pr} {hi t c : Nat} (h : ¬ (hi - t ≤ c ∧ c < hi)) : rowT x b C hi t c = C c := if_neg h

/-! Bounds. -/
def Bnd (N : Nat) (C : Nat → Pr) : Prop := ∀ c, 0 ≤ (C c).1 ∧ (C c).1 ≤ (N : Int)
theorem bnd_wth {x : Int} {b : List Int} {C : Nat → Pr} {hi N : Nat} (h : Bnd N C) : ∀ t, -1 ≤ (wth x b C hi t).1 ∧ (wth x b C hi t).1 ≤ (N : Int) + 1
  | 0 => by simp [wth]; omega
  | t + 1 => by
    rw [wth]
    have := h (hi - t)
    split
    · simp only; omega
    · exact bnd_wth h t
theorem bnd_row {x : Int} {b : List Int} {C : Nat → Pr} {hi t N : Nat} (h : Bnd N C) : Bnd (N + 1) (rowT x b C hi t) := fun c => by
  have h1 := h c
  have h2 := bnd_wth (x := x) (b := b) (hi := hi) h (hi - c)
  unfold rowT
  split
  · split
    · omega
    · omega
  · omega
theorem bnd_rst {C : Nat → Pr} {N : Nat} (h : Bnd N C) : Bnd N (rst C) := h
theorem bnd_stp {b : List Int} {cut down right N : Nat} {C : Nat → Pr} {p : Nat × Int} (h : Bnd N C) : Bnd (N + 1) (stp b cut down right C p) := by
  unfold stp
  refine bnd_row ?_
  split
  · exact bnd_rst h
  · exact h
theorem bnd_foldl {b : List Int} {cut down right : Nat} : ∀ (ps : List (Nat × Int)) {N : Nat} {C : Nat → Pr}, Bnd N C → Bnd (N + ps.length) (ps.foldl (stp b cut down right) C)
  | [], _, _, h => h
  | p :: ps, N, C, h => by
    have := bnd_foldl (b := b) (cut := cut) (down := down) (right := right) ps (bnd_stp (b := b) (cut := cut) (down := down) (right := right) (p := p) h)
    rw [List.length_cons, show N + (ps.length + 1) = N + 1 + ps.length by omega]
    exact this
theorem bnd_swp (b : List Int) (cut down right : Nat) (ps : List (Nat × Int)) : Bnd ps.length (swp b cut down right ps) := by
  have := bnd_foldl (b := b) (cut := cut) (down := down) (right := right) ps (N := 0) (C := fun _ => (0, 0)) (fun _ => by simp)
  rwa [Nat.zero_add] at this

/-! What the cells tell. -/
def Sound (a b : List Int) (i : Nat) (C : Nat → Pr) : Prop := ∀ j, 0 ≤ (C j).1 ∧ (C j).1 ≤ ((lx a b i j : Nat) : Int)
/-- Where a list goes through that is long enough. -/
def KpLsS (a b : List Int) (i j : Nat) : Prop := j ≤ b.length ∧ lcs a b ≤ lx a b i j + i ∧ lcs a b ≤ lx a b i j + j
def Ex1 (a b : List Int) (i : Nat) (C : Nat → Pr) : Prop := ∀ j, KpLsS a b i j → (C j).1 = ((lx a b i j : Nat) : Int)
def Ex2 (a b : List Int) (cut i : Nat) (C : Nat → Pr) : Prop := ∀ j, KpLsS a b i j → (C j).2 = ((j + spl (a.drop i) (b.drop j) (cut - i) : Nat) : Int)

theorem lx_bound (a b : List Int) (i j : Nat) : lx a b i j ≤ a.length - i ∧ lx a b i j ≤ b.length - j := by
  have h1 := lcs_le_left (a.drop i) (b.drop j)
  have h2 := lcs_le_right (a.drop i) (b.drop j)
  rw [List.length_drop] at h1 h2
  exact ⟨h1, h2⟩
theorem lx_down (a b : List Int) (i j : Nat) : lx a b (i + 1) j ≤ lx a b i j := lcs_mono (by rw [← List.drop_drop]; exact List.drop_sublist _ _) (List.Sublist.refl _)
theorem lx_left (a b : List Int) (i : Nat) {j y : Nat} (h : j ≤ y) : lx a b i y ≤ lx a b i j := lcs_mono (List.Sublist.refl _) (by
  rw [show y = j + (y - j) by omega, ← List.drop_drop]
  exact List.drop_sublist _ _)
theorem lx_hit {a b : List Int} {i y : Nat} {x : Int} (hx : a[i]? = some x) (hy : b[y]? = some x) : lx a b i y = lx a b (i + 1) (y + 1) + 1 := by
  obtain ⟨h1, e1⟩ := List.getElem?_eq_some_iff.1 hx
  obtain ⟨h2, e2⟩ := List.getElem?_eq_some_iff.1 hy
  unfold lx
  rw [lcs_at a b i y h1 h2, if_pos (by rw [e1, e2])]
theorem band_in {a b : List Int} {i j spare : Nat} (h : KpLsS a b i j) (hi : i ≤ a.length) (hs : min a.length b.length ≤ lcs a b + spare) : i ≤ j + (spare + (a.length - b.length)) ∧ j ≤ i + (spare + (b.length - a.length)) := by
  obtain ⟨h1, h2, h3⟩ := h
  obtain ⟨h4, h5⟩ := lx_bound a b i j
  omega
theorem sound_row {a b : List Int} {i hi t : Nat} {x : Int} {D : Nat → Pr} (hx : a[i]? = some x) (h : Sound a b (i + 1) D) : Sound a b i (rowT x b D hi t) := fun j => by
  have h0 := h j
  have hd := lx_down a b i j
  by_cases hr : hi - t ≤ j ∧ j < hi
  · rw [rowT_in hr]
    split
    · rename_i hle
      rcases wth_cases x b D hi (hi - j) (by omega) with ⟨e, _⟩ | ⟨y, h1, h2, h3, h4, e⟩
      · rw [e] at hle
        simp only at hle
        omega
      · rw [e]
        have h5 := h (y + 1)
        have h6 := lx_hit hx h3
        have h7 := lx_left a b i (show j ≤ y by omega)
        simp only
        omega
    · omega
  · rw [rowT_out hr]
    omega
theorem exact_row {a b : List Int} {i cut spare : Nat} {x : Int} {D : Nat → Pr} (hx : a[i]? = some x) (hs : min a.length b.length ≤ lcs a b + spare) (hS : Sound a b (i + 1) D) (h1 : Ex1 a b (i + 1) D) (h2 : i + 1 ≤ cut → Ex2 a b cut (i + 1) D) :
    ∀ j, KpLsS a b i j → (rowT x b D (min (i + (spare + (b.length - a.length)) + 1) b.length) (min (i + (spare + (b.length - a.length)) + 1) b.length - (i - (spare + (a.length - b.length)))) j).1 = ((lx a b i j : Nat) : Int) ∧ (i + 1 ≤ cut → (rowT x b D (min (i + (spare + (b.length - a.length)) + 1) b.length) (min (i + (spare + (b.length - a.length)) + 1) b.length - (i - (spare + (a.length - b.length)))) j).2 = ((j + spl (a.drop i) (b.drop j) (cut - i) : Nat) : Int)) := by
  intro j hj
  obtain ⟨hia, exa⟩ := List.getElem?_eq_some_iff.1 hx
  have ea : a.drop i = x :: a.drop (i + 1) := by rw [List.drop_eq_getElem_cons hia, exa]
  obtain ⟨b1, b2⟩ := band_in hj (by omega) hs
  have hjm := hj.1
  generalize hhi : min (i + (spare + (b.length - a.length)) + 1) b.length = hi
  generalize hlo : i - (spare + (a.length - b.length)) = lo
  have elx : lx a b i j = lcs (x :: a.drop (i + 1)) (b.drop j) := by unfold lx; rw [ea]
  have stay : lx a b i j = lx a b (i + 1) j → (∀ c, spl (x :: a.drop (i + 1)) (b.drop j) (c + 1) = spl (a.drop (i + 1)) (b.drop j) c) → rowT x b D hi (hi - lo) j = D j → (rowT x b D hi (hi - lo) j).1 = ((lx a b i j : Nat) : Int) ∧ (i + 1 ≤ cut → (rowT x b D hi (hi - lo) j).2 = ((j + spl (a.drop i) (b.drop j) (cut - i) : Nat) : Int)) := by
    intro e1 e2 e3
    have k : KpLsS a b (i + 1) j := ⟨hj.1, by have := hj.2.1; omega, by have := hj.2.2; omega⟩
    rw [e3, e1]
    refine ⟨h1 j k, fun hc => ?_⟩
    rw [h2 hc j k, ea, show cut - i = (cut - (i + 1)) + 1 by omega, e2]
  cases hat : at1 x (b.drop j) with
  | none =>
    have hno := at1_none hat
    refine stay (by rw [elx, lcs_no _ hat]; rfl) (fun c => spl_no hat) ?_
    by_cases hr : hi - (hi - lo) ≤ j ∧ j < hi
    · rw [rowT_in hr]
      rcases wth_cases x b D hi (hi - j) (by omega) with ⟨e, _⟩ | ⟨y, g1, g2, g3, g4, e⟩
      · rw [e, if_neg (by have := (hS j).1; simp only; omega)]
      · exfalso
        refine hno (y - j) ?_
        rw [List.getElem?_drop, show j + (y - j) = y by omega]
        exact g3
    · exact rowT_out hr
  | some k =>
    obtain ⟨a1, a2⟩ := at1_some hat
    rw [List.getElem?_drop] at a1
    have hkm := (List.getElem?_eq_some_iff.1 a1).1
    have first : ∀ y, j ≤ y → b[y]? = some x → j + k ≤ y := fun y g1 g2 => by
      have := a2 (y - j) (by rw [List.getElem?_drop, show j + (y - j) = y by omega]; exact g2)
      omega
    have el : lcs (a.drop (i + 1)) ((b.drop j).drop (k + 1)) = lx a b (i + 1) (j + k + 1) := by unfold lx; rw [List.drop_drop]; rfl
    have em : lcs (a.drop (i + 1)) (b.drop j) = lx a b (i + 1) j := rfl
    have emax : lx a b i j = max (lx a b (i + 1) j) (lx a b (i + 1) (j + k + 1) + 1) := by rw [elx, lcs_yes _ hat, el, em]
    by_cases hl : (lst (a.drop (i + 1)) (b.drop j)).length ≤ (lst (a.drop (i + 1)) ((b.drop j).drop (k + 1))).length + 1
    · have hsp : ∀ c, spl (x :: a.drop (i + 1)) (b.drop j) (c + 1) = k + 1 + spl (a.drop (i + 1)) (b.drop (j + k + 1)) c := fun c => by rw [spl_take hat hl, List.drop_drop]; rfl
      rw [lst_length, lst_length, el, em] at hl
      have ekk : lx a b i j = lx a b (i + 1) (j + k + 1) + 1 := by omega
      have kk : KpLsS a b (i + 1) (j + k + 1) := ⟨by omega, by have := hj.2.1; omega, by have := hj.2.2; omega⟩
      obtain ⟨c1, c2⟩ := band_in kk (by omega) hs
      have hr : hi - (hi - lo) ≤ j ∧ j < hi := by omega
      rw [rowT_in hr]
      rcases wth_cases x b D hi (hi - j) (by omega) with ⟨_, e⟩ | ⟨y, g1, g2, g3, g4, e⟩
      · exact absurd a1 (e (j + k) (by omega) (by omega))
      · have ey : y = j + k := by
          have := first y (by omega) g3
          have := g4 (j + k) (by omega) a1
          omega
        subst ey
        have hj1 := (hS j).2
        have hk1 := h1 _ kk
        rw [e, if_pos (by simp only; omega)]
        refine ⟨by simp only; omega, fun hc => ?_⟩
        simp only
        rw [h2 hc _ kk, ea, show cut - i = (cut - (i + 1)) + 1 by omega, hsp]
        omega
    · have hsp : ∀ c, spl (x :: a.drop (i + 1)) (b.drop j) (c + 1) = spl (a.drop (i + 1)) (b.drop j) c := fun c => spl_skip hat hl
      rw [lst_length, lst_length, el, em] at hl
      refine stay (by omega) hsp ?_
      have kp : KpLsS a b (i + 1) j := ⟨hj.1, by have := hj.2.1; omega, by have := hj.2.2; omega⟩
      have hk1 := h1 _ kp
      by_cases hr : hi - (hi - lo) ≤ j ∧ j < hi
      · rw [rowT_in hr]
        rcases wth_cases x b D hi (hi - j) (by omega) with ⟨e, _⟩ | ⟨y, g1, g2, g3, g4, e⟩
        · rw [e, if_neg (by simp only; omega)]
        · have g5 := first y (by omega) g3
          have g6 := (hS (y + 1)).2
          have g7 := lx_left a b (i + 1) (show j + k + 1 ≤ y + 1 by omega)
          rw [e, if_neg (by simp only; omega)]
      · exact rowT_out hr

theorem swp_inv (a b : List Int) (cut spare : Nat) (hcut : cut ≤ a.length) : ∀ k, k ≤ a.length → Sound a b (a.length - k) (swp b cut (spare + (a.length - b.length)) (spare + (b.length - a.length)) (backs a k)) ∧ (min a.length b.length ≤ lcs a b + spare → Ex1 a b (a.length - k) (swp b cut (spare + (a.length - b.length)) (spare + (b.length - a.length)) (backs a k)) ∧ (a.length - k < cut → Ex2 a b cut (a.length - k) (swp b cut (spare + (a.length - b.length)) (spare + (b.length - a.length)) (backs a k))))
  | 0, _ => by
    have e : swp b cut (spare + (a.length - b.length)) (spare + (b.length - a.length)) (backs a 0) = fun _ => (0, 0) := rfl
    rw [e]
    have hz : ∀ j, lx a b (a.length - 0) j = 0 := fun j => by unfold lx; exact lcs_end_left a b _ j (by omega)
    refine ⟨fun j => by rw [hz]; simp, fun _ => ⟨fun j _ => by rw [hz]; rfl, fun h => by omega⟩⟩
  | k + 1, hk => by
    obtain ⟨ih1, ih2⟩ := swp_inv a b cut spare hcut k (by omega)
    have hia : a.length - (k + 1) < a.length := by omega
    have hx : a[a.length - (k + 1)]? = some a[a.length - (k + 1)] := List.getElem?_eq_getElem hia
    generalize a[a.length - (k + 1)] = x at hx
    obtain ⟨i, hi⟩ : ∃ i, i = a.length - (k + 1) := ⟨_, rfl⟩
    rw [← hi] at hx hia ⊢
    rw [show a.length - k = i + 1 by omega] at ih1 ih2
    have e : swp b cut (spare + (a.length - b.length)) (spare + (b.length - a.length)) (backs a (k + 1)) = stp b cut (spare + (a.length - b.length)) (spare + (b.length - a.length)) (swp b cut (spare + (a.length - b.length)) (spare + (b.length - a.length)) (backs a k)) (i, x) := by
      unfold swp
      rw [backs_succ a (j := i) (k := k) (by omega) hx, List.foldl_append]
      rfl
    rw [e]
    generalize swp b cut (spare + (a.length - b.length)) (spare + (b.length - a.length)) (backs a k) = C at *
    unfold stp
    simp only
    have d1 : Sound a b (i + 1) (if i + 1 = cut then rst C else C) := by
      split
      · exact ih1
      · exact ih1
    refine ⟨sound_row hx d1, fun hs => ?_⟩
    obtain ⟨f1, f2⟩ := ih2 hs
    have d2 : Ex1 a b (i + 1) (if i + 1 = cut then rst C else C) := by
      split
      · exact f1
      · exact f1
    have d3 : i + 1 ≤ cut → Ex2 a b cut (i + 1) (if i + 1 = cut then rst C else C) := by
      intro hc
      by_cases e : i + 1 = cut
      · rw [if_pos e]
        intro j _
        rw [← e, Nat.sub_self, spl_zero]
        rfl
      · rw [if_neg e]
        exact f2 (by omega)
    have R := exact_row hx hs d1 d2 d3
    exact ⟨fun j hj => (R j hj).1, fun hc j hj => (R j hj).2 (by omega)⟩
/-- What the first cell tells. -/
theorem swp_done (a b : List Int) (cut spare : Nat) (hcut : cut ≤ a.length) (h0 : 0 < cut) : 0 ≤ (swp b cut (spare + (a.length - b.length)) (spare + (b.length - a.length)) (backs a a.length) 0).1 ∧ (((min a.length b.length : Nat) : Int) - (spare : Int) ≤ (swp b cut (spare + (a.length - b.length)) (spare + (b.length - a.length)) (backs a a.length) 0).1 → (swp b cut (spare + (a.length - b.length)) (spare + (b.length - a.length)) (backs a a.length) 0).2 = ((spl a b cut : Nat) : Int)) := by
  obtain ⟨h1, h2⟩ := swp_inv a b cut spare hcut a.length (Nat.le_refl _)
  rw [Nat.sub_self] at h1 h2
  have hL := (h1 0).2
  refine ⟨(h1 0).1, fun hle => ?_⟩
  have e0 : lx a b 0 0 = lcs a b := lx_lcs a b
  rw [e0] at hL
  obtain ⟨_, h3⟩ := h2 (by omega)
  have := h3 h0 0 ⟨Nat.zero_le _, by omega, by omega⟩
  rw [this]
  simp

end Go.Proofs.Ytejpbjglfjhjkaa
