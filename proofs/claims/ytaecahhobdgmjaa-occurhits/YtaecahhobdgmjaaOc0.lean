/-
  Chapter 4: what is meant by Hits and Most; the contracts of package occur that the statements want (each is proved over the landed code: OfOK, NextOK, HitsOK, MostOK); awake.
-/
import Derived.Test.YtaecahhobdgmjaaPlc2
import Derived.Test.YtaecahhobdgmjaaLow
namespace Go.Proofs.Ytaecahhobdgmjaa
open Go.RowKit

def hitAt (ls : List (List Int)) (x : Int) : Nat := if 0 ≤ x ∧ x < (ls.length : Int) then (ls[x.toNat]?.getD []).length else 0
/-- The sum of the lengths. -/
def hitsOf (ls : List (List Int)) (a : List Int) : Nat := (a.map (hitAt ls)).sum
/-- The length of the longest. -/
def mostOf (ls : List (List Int)) : Nat := ls.foldl (fun m l => max m l.length) 0
theorem hits_step {ls : List (List Int)} {a : List Int} {k : Nat} {x : Int} (h : a[k]? = some x) : hitsOf ls (a.take (k + 1)) = hitsOf ls (a.take k) + hitAt ls x := by
  obtain ⟨hk, e⟩ := List.getElem?_eq_some_iff.1 h
  unfold hitsOf
  rw [List.take_succ_eq_append_getElem hk, e]
  simp
theorem most_step {ls : List (List Int)} {k : Nat} {l : List Int} (h : ls[k]? = some l) : mostOf (ls.take (k + 1)) = max (mostOf (ls.take k)) l.length := by
  obtain ⟨hk, e⟩ := List.getElem?_eq_some_iff.1 h
  unfold mostOf
  rw [List.take_succ_eq_append_getElem hk, e]
  simp

/-- Of. -/
def OfOK : Prop := ∀ (n : Int) (B : Option Addr) (m d : Nat) (b : List Int) (w : World), I64 n → b.length = m → m ≤ 1048576 → m ≤ d → d ≤ maxLen → Row w B (iv b) → Calls Try.prog 8 #[.int .i64 n, .slice B m d] w (PlacesMade n b w)
/-- The lists are not long, and ascend. -/
def Asc (ls : List (List Int)) : Prop := ls.length ≤ 1048576 ∧ ∀ l ∈ ls, l.length ≤ 1048576 ∧ l.Pairwise (· < ·)
/-- Next. -/
def NextOK : Prop := ∀ (A : Option Addr) (n c : Nat) (vs : List Value) (ls : List (List Int)) (s f : Int) (w : World), I64 s → I64 f → ls.length = n → n ≤ c → c ≤ maxLen → Asc ls → Row w A vs → ISs w vs ls →
  Calls Try.prog 9 #[.slice A n c, .int .i64 s, .int .i64 f] w fun e w' => e = .returned (.tuple #[.int .i64 (nextU ls s f).1, .bool (nextU ls s f).2]) ∧ Below w.heap.size w w'
/-- Hits. -/
def HitsOK : Prop := ∀ (A B : Option Addr) (n c m d : Nat) (vs : List Value) (ls : List (List Int)) (a : List Int) (w : World), ls.length = n → n ≤ c → c ≤ maxLen → n ≤ 1048576 → (∀ l ∈ ls, l.length ≤ 1048576) → Row w A vs → ISs w vs ls → a.length = m → m ≤ d → d ≤ maxLen → m ≤ 1048576 → Row w B (iv a) →
  Calls Try.prog 11 #[.slice A n c, .slice B m d] w fun e w' => e = .returned (.int .i64 (hitsOf ls a : Nat)) ∧ Below w.heap.size w w'
/-- Most. -/
def MostOK : Prop := ∀ (A : Option Addr) (n c : Nat) (vs : List Value) (ls : List (List Int)) (w : World), ls.length = n → n ≤ c → c ≤ maxLen → n ≤ 1048576 → (∀ l ∈ ls, l.length ≤ 1048576) → Row w A vs → ISs w vs ls →
  Calls Try.prog 12 #[.slice A n c] w fun e w' => e = .returned (.int .i64 (mostOf ls : Nat)) ∧ Below w.heap.size w w'

set_option maxHeartbeats 1600000 in
theorem awake_core (hO : OfOK) (hM : MostOK) (w : World) : Calls Try.prog 10 #[] w (Yes w) := by
  go_enter Try.func10, Try.ntmps10
  go_wp2_with fail
  refine (hO 3 _ 3 3 [2, 0, 2] _ (i64_small (by decide)) rfl (by decide) (by decide) (by decide) (row_lit0 w (iv [2, 0, 2]) 3)).mono ?_
  rintro e w1 ⟨v, rfl, hv, hb1⟩
  have b1 := below_go (below_a1 w _) hb1
  rw [show placesE 3 [2, 0, 2] = 0 by decide]
  rw [show placesU 3 [2, 0, 2] = [[1], [], [0, 2]] by decide] at hv
  obtain ⟨A, c, vs, rfl, hc, hcm, hr, hs, _⟩ := hv
  obtain ⟨g, o, A1, c1, e1, k1, _, _, _, _⟩ := ISs.cell hr hs (k := 1) (by decide)
  subst e1
  obtain ⟨_, _, A2, c2, e2, k2, _, _, r2, _⟩ := ISs.cell hr hs (k := 2) (by decide)
  cases e2
  have k1' : w1.cell? ⟨g, o + 1, none⟩ = some (.slice A1 0 c1) := k1
  have k2' : ∀ o', (w1.alloc o').cell? ⟨g, o + 2, none⟩ = some (.slice A2 2 c2) := fun o' => (((Below.refl _ w1).alloc (Nat.le_refl _) o').cell (p := ⟨g, o + 2, none⟩) (World.block_lt_of_cell? _ _ k2)).trans k2
  have k2'' : w1.cell? ⟨g, o + 2, none⟩ = some (.slice A2 2 c2) := k2
  have r2' : Row w1 A2 (iv [0, 2]) := r2
  have hc' : 3 ≤ c := hc
  clear k1 k2 hb1 r2 hc
  go_wp2_with fail
  refine (sameInts_any A2 _ 2 2 c2 2 [0, 2] [0, 2] _ rfl rfl (by decide) (r2'.alloc _) (row_lit0 w1 (iv [0, 2]) 3)).mono ?_
  rintro e w2 ⟨rfl, q, hq⟩
  have b2 : Below w1.heap.size w1 w2 := below_drawn hq (below_a1 w1 _)
  have hr2 := hr.below b2
  have hs2 := hs.below b2
  have bw2 := below_go b1 b2
  rw [show decide (([0, 2] : List Int) = [0, 2]) = true by decide]
  clear hq b1 b2 hr hs k1' k2' k2'' r2'
  go_wp2_with fail
  refine (hM _ 3 c vs [[1], [], [0, 2]] w2 rfl hc' hcm (by decide) (by decide) hr2 hs2).mono ?_
  rintro e w3 ⟨rfl, b3⟩
  have bw3 := below_go bw2 b3
  rw [show mostOf [[1], [], [0, 2]] = 2 by decide]
  clear b3 bw2 hr2 hs2
  go_wp2_with fail
  go_ret
  exact Yes.of bw3

end Go.Proofs.Ytaecahhobdgmjaa
