/-
  Package occur over the landed code: Next, Hits, Most.
-/
import Derived.Test.YtaecahhobdgmjaaOc0
import Derived.Test.YtaecahhobdgmjaaLayS
namespace Go.Proofs.Ytaecahhobdgmjaa
open Go.RowKit

set_option maxHeartbeats 400000 in
theorem indices_in (g o n c k : Nat) (v : Option Addr) (l d : Nat) (w : World) (hk : k < n) (hc : w.cell? ⟨g, o + k, none⟩ = some (.slice v l d)) :
    Calls Try.prog 19 #[.slice (some ⟨g, o, none⟩) n c, .int .i64 (k : Int)] w fun e w' => e = .returned (.slice v l d) ∧ w = w' := by
  have z1 : decide ((k : Int) < 0) = false := by simp
  have z2 : decide ((n : Int) ≤ (k : Int)) = false := by simp; omega
  have z3 : decide (n ≤ k) = false := by simp; omega
  go_enter Try.func19, Try.ntmps19
  go_wp2_with fail
  go_ret
  exact ⟨rfl, rfl⟩

set_option maxHeartbeats 400000 in
theorem indices_out (A : Option Addr) (n c : Nat) (s : Int) (w : World) (h : ¬ (0 ≤ s ∧ s < (n : Int))) :
    Calls Try.prog 19 #[.slice A n c, .int .i64 s] w fun e w' => e = .returned (.slice none 0 0) ∧ w = w' := by
  by_cases h1 : s < 0
  · clear h
    go_enter Try.func19, Try.ntmps19
    go_wp2_with fail
    go_ret
    exact ⟨rfl, rfl⟩
  · have h2 : (n : Int) ≤ s := by omega
    clear h
    go_enter Try.func19, Try.ntmps19
    go_wp2_with fail
    go_ret
    exact ⟨rfl, rfl⟩

theorem nextL_count {l : List Int} {f : Int} (h : l.Pairwise (· < ·)) : nextL l f = if hc : l.countP (· < f) < l.length then (l[l.countP (· < f)], true) else (0, false) := by
  induction l with
  | nil => simp [nextL]
  | cons j l ih =>
    rw [List.pairwise_cons] at h
    by_cases hj : f ≤ j
    · have h0 : (j :: l).countP (· < f) = 0 := by
        rw [List.countP_eq_zero]
        intro x hx
        rw [List.mem_cons] at hx
        rcases hx with rfl | hx
        · simpa using hj
        · have := h.1 x hx
          simp
          omega
      rw [nextL, if_pos hj]
      simp [h0]
    · have h1 : (j :: l).countP (· < f) = l.countP (· < f) + 1 := by
        rw [List.countP_cons_of_pos]
        simp
        omega
      rw [nextL, if_neg hj, ih h.2]
      simp [h1]

theorem search_any (A : Option Addr) (n c : Nat) (l : List Int) (f : Int) (w : World) (hn : l.length = n) (hb : n ≤ 1048576) (hs : l.Pairwise (· < ·)) (hr : Row w A (iv l)) :
    Calls Try.prog 20 #[.slice A n c, .int .i64 f] w fun e w' => (∃ b, e = .returned (.tuple #[.int .i64 (l.countP (· < f) : Nat), .bool b])) ∧ ∃ q, w' = w.drewN q := by
  by_cases h0 : n = 0
  · subst h0
    have : l = [] := List.eq_nil_of_length_eq_zero hn
    subst this
    have h := Any.slices_BinarySearch_int_empty Try.searchI A c f w
    exact h.mono fun e w' ⟨h1, h2⟩ => ⟨⟨_, h1⟩, 0, h2⟩
  · obtain ⟨g, o, rfl, _⟩ := hr.int (k := 0) (by omega)
    have h := Any.slices_BinarySearch_int Try.searchI g o n c l f w (by omega) (by omega) (fun j hj => by
      obtain ⟨_, _, e, hc⟩ := hr.int hj
      cases e
      rw [hc, List.getD_eq_getElem?_getD, List.getElem?_eq_getElem hj]
      rfl) (by rw [List.take_of_length_le (by omega)]; exact hs.imp fun h => by omega)
    rw [List.take_of_length_le (by omega)] at h
    exact h.mono fun e w' ⟨h1, h2⟩ => ⟨⟨_, h1⟩, h2⟩

set_option maxHeartbeats 1600000 in
theorem nextOK : NextOK := by
  intro A n c vs ls s f w hs1 hf hn hc hcm hasc hr hs
  have HN := Lib.hid hn
  obtain ⟨r, hR⟩ : ∃ r, nextU ls s f = r := ⟨_, rfl⟩
  rw [hR]
  have HR := Lib.hid hR
  have hn1 : n ≤ 1048576 := by rw [← hn]; exact hasc.1
  clear hn hR
  obtain ⟨rj, rb⟩ := r
  by_cases h0 : 0 ≤ s ∧ s < (n : Int)
  · obtain ⟨k, rfl⟩ := Int.eq_ofNat_of_zero_le h0.1
    have hk : k < n := by omega
    obtain ⟨g, o, B, d, rfl, hcc, b1, b2, b3, b4⟩ := ISs.cell hr hs (k := k) (by rw [HN.out]; exact hk)
    have hL : ls[k]? = some (ls[k]'(by rw [HN.out]; exact hk)) := List.getElem?_eq_getElem _
    obtain ⟨hbl, hpw⟩ := hasc.2 (ls[k]'(by rw [HN.out]; exact hk)) (List.getElem_mem _)
    have hS : nextL (ls[k]'(by rw [HN.out]; exact hk)) f = (rj, rb) := by
      have h := HR.out
      unfold nextU at h
      rw [HN.out, if_pos h0, Int.toNat_natCast, hL] at h
      exact h
    generalize ls[k]'(by rw [HN.out]; exact hk) = l at *
    rw [nextL_count hpw] at hS
    have hI := indices_in g o n c k B l.length d w hk hcc
    have hB := search_any B _ d l f w rfl hbl hpw b3
    clear hr hs hL HR h0 hasc hcc
    have hcl : l.countP (· < f) ≤ l.length := List.countP_le_length
    by_cases hlt : l.countP (· < f) < l.length
    · rw [dif_pos hlt] at hS
      injection hS with e1 e2
      subst e1
      subst e2
      obtain ⟨g', o', rfl, hd⟩ := b3.int hlt
      generalize l[l.countP (· < f)] = x at *
      generalize l.countP (· < f) = t at *
      have z : ((t : Int) == (l.length : Int)) = false := by simp; omega
      clear hpw b3
      go_enter Try.func9, Try.ntmps9
      go_wp2_with fail
      refine hI.mono ?_
      rintro e w1 ⟨rfl, rfl⟩
      go_wp2_with fail
      refine hB.mono ?_
      rintro e w1 ⟨⟨b, rfl⟩, q, rfl⟩
      clear hI hB
      go_wp2_with fail
      go_ret2
      exact ⟨rfl, below_drewN (Below.refl _ _) _⟩
    · rw [dif_neg hlt] at hS
      injection hS with e1 e2
      subst e1
      subst e2
      have ht : l.countP (· < f) = l.length := by omega
      rw [ht] at hB
      clear hpw b3 hlt hcl ht
      go_enter Try.func9, Try.ntmps9
      go_wp2_with fail
      refine hI.mono ?_
      rintro e w1 ⟨rfl, rfl⟩
      go_wp2_with fail
      refine hB.mono ?_
      rintro e w1 ⟨⟨b, rfl⟩, q, rfl⟩
      clear hI hB
      go_wp2_with fail
      go_ret2
      exact ⟨rfl, below_drewN (Below.refl _ _) _⟩
  · have hS := HR.out
    unfold nextU at hS
    rw [HN.out, if_neg h0] at hS
    injection hS with e1 e2
    subst e1
    subst e2
    have hI := indices_out A n c s w h0
    have hB := search_any none 0 0 [] f w rfl (by decide) List.Pairwise.nil (Row.nil _ _)
    clear hr hs HR h0
    go_enter Try.func9, Try.ntmps9
    go_wp2_with fail
    refine hI.mono ?_
    rintro e w1 ⟨rfl, rfl⟩
    go_wp2_with fail
    refine hB.mono ?_
    rintro e w1 ⟨⟨b, rfl⟩, q, rfl⟩
    clear hI hB
    go_wp2_with fail
    go_ret2
    exact ⟨rfl, below_drewN (Below.refl _ _) _⟩

theorem hitAt_in {ls : List (List Int)} {k : Nat} {l : List Int} (h : ls[k]? = some l) : hitAt ls (k : Int) = l.length := by
  obtain ⟨hk, _⟩ := List.getElem?_eq_some_iff.1 h
  unfold hitAt
  rw [if_pos ⟨by omega, by omega⟩, Int.toNat_natCast, h]
  rfl
theorem hitAt_out {ls : List (List Int)} {x : Int} (h : ¬ (0 ≤ x ∧ x < (ls.length : Int))) : hitAt ls x = 0 := by
  unfold hitAt
  rw [if_neg h]
theorem hitAt_le {ls : List (List Int)} (h : ∀ l ∈ ls, l.length ≤ 1048576) (x : Int) : hitAt ls x ≤ 1048576 := by
  by_cases h0 : 0 ≤ x ∧ x < (ls.length : Int)
  · obtain ⟨k, rfl⟩ := Int.eq_ofNat_of_zero_le h0.1
    have hk : k < ls.length := by omega
    rw [hitAt_in (List.getElem?_eq_getElem hk)]
    exact h _ (List.getElem_mem _)
  · rw [hitAt_out h0]
    omega
theorem hits_leM {ls : List (List Int)} {M : Nat} (h : ∀ x, hitAt ls x ≤ M) (a : List Int) : ∀ k, hitsOf ls (a.take k) ≤ k * M
  | 0 => by simp [hitsOf]
  | k + 1 => by
    have ih := hits_leM h a k
    rw [Nat.succ_mul]
    by_cases hk : k < a.length
    · rw [hits_step (List.getElem?_eq_getElem hk)]
      have := h a[k]
      omega
    · have h1 : a.take (k + 1) = a := List.take_of_length_le (by omega)
      have h2 : a.take k = a := List.take_of_length_le (by omega)
      rw [h1]
      rw [h2] at ih
      omega
theorem hits_le {ls : List (List Int)} (h : ∀ l ∈ ls, l.length ≤ 1048576) (a : List Int) (k : Nat) : hitsOf ls (a.take k) ≤ k * 1048576 := hits_leM (hitAt_le h) a k

def HtRel (ls : List (List Int)) (a : List Int) (w : World) (s i : Value) (wr : World) : Prop := ∃ k q : Nat, k ≤ a.length ∧ i = .int .i64 (k : Int) ∧ s = .int .i64 (hitsOf ls (a.take k) : Nat) ∧ wr = w.drewN q

set_option maxRecDepth 100000 in
set_option maxHeartbeats 1600000 in
theorem hitsOK : HitsOK := by
  intro A B n c m d vs ls a w hn hc hcm hn1 hl hr hs hm hd hdm hm1 hra
  subst hm
  have HN := Lib.hid hn
  have HL := Lib.hid hl
  clear hn hl
  go_enter Try.func11, Try.ntmps11
  go_wp2_with fail
  go_loopw [5, 10] (fun s i wr => HtRel ls a w s i wr) (fun _ i _ => a.length - (intOf i).toNat)
  case atStart => exact ⟨0, 0, Nat.zero_le _, rfl, by simp [hitsOf], rfl⟩
  case round =>
    obtain ⟨k, q, hk, rfl, rfl, hq⟩ := hrel
    have rA : Row wr A vs := by rw [hq]; exact hr
    have rS : ISs wr vs ls := by rw [hq]; exact hs
    have rB : Row wr B (iv a) := by rw [hq]; exact hra
    have HQ := Lib.hid hq
    clear hq hr hs hra
    by_cases hlt : k < a.length
    · obtain ⟨g, o, rfl, hcc⟩ := rB.int hlt
      have HX : Hid (a[k]? = some a[k]) := List.getElem?_eq_getElem hlt
      generalize a[k] = x at *
      have hle := hits_le HL.out a k
      have hst := hits_step (ls := ls) HX.out
      clear rB
      by_cases h0 : 0 ≤ x ∧ x < (n : Int)
      · obtain ⟨y, rfl⟩ := Int.eq_ofNat_of_zero_le h0.1
        have hy : y < n := by omega
        obtain ⟨g', o', B', d', rfl, hcd, b1, b2, b3, b4⟩ := ISs.cell rA rS (k := y) (by rw [HN.out]; exact hy)
        have hL : ls[y]? = some (ls[y]'(by rw [HN.out]; exact hy)) := List.getElem?_eq_getElem _
        have hbl := HL.out (ls[y]'(by rw [HN.out]; exact hy)) (List.getElem_mem _)
        rw [hitAt_in hL] at hst
        generalize ls[y]'(by rw [HN.out]; exact hy) = l at *
        have R : HtRel ls a w (.int .i64 ((hitsOf ls (a.take k) + l.length : Nat) : Int)) (.int .i64 (k + 1 : Nat)) wr := ⟨k + 1, q, by omega, rfl, by rw [hst], HQ.out⟩
        have hI := fun w' (h : w'.cell? _ = _) => indices_in g' o' n c y B' l.length d' w' hy h
        clear rA rS hL hst HX h0 b3 b4
        go_wp2_with fail
        refine (hI _ hcd).mono ?_
        rintro e w1 ⟨rfl, rfl⟩
        go_wp2_with fail
        go_roundw
        case rel => first | exact R | ((repeat apply Exists.intro); exact ⟨R, rfl⟩)
        case measure => simp [intOf]; omega
      · rw [hitAt_out (by rw [HN.out]; exact h0)] at hst
        have R : HtRel ls a w (.int .i64 (hitsOf ls (a.take k) : Nat)) (.int .i64 (k + 1 : Nat)) wr := ⟨k + 1, q, by omega, rfl, by rw [hst]; rfl, HQ.out⟩
        have hI := indices_out A n c x wr h0
        clear rA rS hst HX h0
        go_wp2_with fail
        refine hI.mono ?_
        rintro e w1 ⟨rfl, rfl⟩
        go_wp2_with fail
        go_roundw
        case rel => first | exact R | ((repeat apply Exists.intro); exact ⟨R, rfl⟩)
        case measure => simp [intOf]; omega
    · have hkl : k = a.length := by omega
      subst hkl
      rw [List.take_length]
      go_wp2_with fail
      go_ret
      exact ⟨rfl, below_drawn HQ.out (Below.refl _ _)⟩

theorem mostQ_le {ls : List (List Int)} (h : ∀ l ∈ ls, l.length ≤ 1048576) : ∀ k, mostOf (ls.take k) ≤ 1048576
  | 0 => by simp [mostOf]
  | k + 1 => by
    have ih := mostQ_le h k
    by_cases hk : k < ls.length
    · rw [most_step (List.getElem?_eq_getElem hk)]
      have := h ls[k] (List.getElem_mem _)
      omega
    · have h1 : ls.take (k + 1) = ls := List.take_of_length_le (by omega)
      have h2 : ls.take k = ls := List.take_of_length_le (by omega)
      rw [h1]
      rw [h2] at ih
      omega

set_option maxHeartbeats 1600000 in
theorem mostOK : MostOK := by
  intro A n c vs ls w hn hc hcm hn1 hl hr hs
  subst hn
  have HL := Lib.hid hl
  clear hl
  go_enter Try.func12, Try.ntmps12
  go_wp2_with fail
  go_loopw [3, 8] (fun s i wr => ∃ k : Nat, k ≤ ls.length ∧ i = .int .i64 (k : Int) ∧ s = .int .i64 (mostOf (ls.take k) : Nat) ∧ w = wr) (fun _ i _ => ls.length - (intOf i).toNat)
  case atStart => exact ⟨0, Nat.zero_le _, rfl, by simp [mostOf], rfl⟩
  case round =>
    obtain ⟨k, hk, rfl, rfl, rfl⟩ := hrel
    by_cases hlt : k < ls.length
    · obtain ⟨g', o', B', d', rfl, hcd, b1, b2, b3, b4⟩ := ISs.cell hr hs hlt
      have hL : ls[k]? = some ls[k] := List.getElem?_eq_getElem _
      have hbl := HL.out ls[k] (List.getElem_mem _)
      have hle := mostQ_le HL.out k
      generalize ls[k] = l at *
      have HS := Lib.hid (most_step hL)
      clear hr hs hL b3 b4
      generalize mostOf (ls.take k) = t at *
      by_cases hmx : t ≤ l.length
      · have z1 : max (t : Int) (l.length : Int) = (l.length : Int) := by omega
        have HZ : Hid (max t l.length = l.length) := by show _ = _; omega
        go_wp2_with fail
        go_roundw
        case rel => exact ⟨k + 1, by omega, by go_num, by rw [HS.out, HZ.out], by first | trivial | rfl⟩
        case measure => simp [intOf]; omega
      · have z1 : max (t : Int) (l.length : Int) = (t : Int) := by omega
        have HZ : Hid (max t l.length = t) := by show _ = _; omega
        go_wp2_with fail
        go_roundw
        case rel => exact ⟨k + 1, by omega, by go_num, by rw [HS.out, HZ.out], by first | trivial | rfl⟩
        case measure => simp [intOf]; omega
    · have hkl : k = ls.length := by omega
      subst hkl
      rw [List.take_length]
      go_wp2_with fail
      go_ret
      exact ⟨rfl, Below.refl _ _⟩

end Go.Proofs.Ytaecahhobdgmjaa
