/-
  Words and contracts that the proof leans on.
-/
import Derived.Test.YtncbhnmhaoblaaaM5
import Derived.Deep.OwnRows
namespace Go.Proofs.Ytncbhnmhaoblaaa
open Go.RowKit

/-- Each is a word. -/
def Wd (x : List Nat) : Prop := ∀ u ∈ x, u < 18446744073709551616
/-- Words are their bits. -/
theorem words_eq {x y : List Nat} (hl : x.length = y.length) (hx : Wd x) (hy : Wd y) (h : ∀ j, bt x j = bt y j) : x = y := by
  apply List.ext_getElem hl
  intro k h1 h2
  apply Nat.eq_of_testBit_eq
  intro t
  by_cases ht : t < 64
  · have := h (64 * k + t)
    unfold bt at this
    rw [show (64 * k + t) / 64 = k by omega, show (64 * k + t) % 64 = t by omega, List.getElem?_eq_getElem h1, List.getElem?_eq_getElem h2] at this
    exact this
  · have a1 := hx _ (List.getElem_mem h1)
    have a2 := hy _ (List.getElem_mem h2)
    have p : 2 ^ 64 ≤ 2 ^ t := Nat.pow_le_pow_right (by decide) (by omega)
    rw [Nat.testBit_lt_two_pow (Nat.lt_of_lt_of_le a1 p), Nat.testBit_lt_two_pow (Nat.lt_of_lt_of_le a2 p)]

/-- Bits as values. -/
def lv (l : List Bool) : List Value := l.map Value.bool
theorem Row.bit {w : World} {A : Option Addr} {l : List Bool} (h : Row w A (lv l)) {k : Nat} (hk : k < l.length) :
    ∃ g o, A = some ⟨g, o, none⟩ ∧ w.cell? ⟨g, o + k, none⟩ = some (.bool l[k]) := by
  obtain ⟨g, o, e, hc⟩ := h.at_ k (by simpa [lv] using hk)
  exact ⟨g, o, e, by rw [hc]; simp [lv]⟩

theorem own_rowIs {w : World} {T n B : Nat} {t : TypeId} {F : Nat → Value} (h : w.rowIs T t n F) (hB : B ≤ T) (hn : n ≤ maxLen) : w.ownsRow B t 1 (.slice (some ⟨T, 0, none⟩) n n) n ((List.range n).map F) := by
  obtain ⟨c, h1, h2, h3⟩ := h
  refine ⟨by simp, .inr ⟨T, n, c, rfl, hB, h1, Nat.le_refl _, hn, by omega, ?_⟩⟩
  apply List.ext_getElem
  · simp [h2]
  · intro k g1 g2
    simp only [List.length_map, List.length_range] at g2
    have := h3 k g2
    rw [Array.getElem?_eq_some_iff] at this
    obtain ⟨_, e⟩ := this
    simp [e]

/-- What a call leaves that returns W new words with such bits. -/
def MadeV (W : Nat) (b : Nat → Bool) (w : World) (e : Ending) (w' : World) : Prop :=
  ∃ v x, e = .returned v ∧ x.length = W ∧ Wd x ∧ (∀ j, bt x j = (decide (j < 64 * W) && b j)) ∧ w'.ownsRow w.heap.size 71 1 v x.length (uv x) ∧ Below w.heap.size w w'

theorem Try.infoU64Vc2 : (Try.prog.info? 71).map (fun i => (i.zero, i.size, i.bytes)) = some (some (.int .u64 0), 1, 8) := by kernel_rfl

theorem or_bitVc2 (u s : Nat) (hu : u < 18446744073709551616) (hs : s < 64) : bits .or .u64 (u : Nat) (IntKind.u64.wrap (2 ^ s)) = ((u ||| 2 ^ s : Nat) : Int) := by
  have h2 : 2 ^ s < 18446744073709551616 := Nat.lt_of_lt_of_le (Nat.pow_lt_pow_right (by decide) hs) (by decide)
  have e : IntKind.u64.wrap ((2 : Int) ^ s) = ((2 ^ s : Nat) : Int) := by
    have e1 : ((2 : Int) ^ s) = ((2 ^ s : Nat) : Int) := by rw [Int.natCast_pow]; rfl
    rw [e1]
    simp only [IntKind.wrap, IntKind.bits, IntKind.signed]
    have : ((2 ^ s : Nat) : Int) % 18446744073709551616 = ((2 ^ s : Nat) : Int) := Int.emod_eq_of_lt (Int.natCast_nonneg _) (Int.ofNat_lt.2 h2)
    simpa using this
  rw [e, u64_or_nat _ _ hu h2]

end Go.Proofs.Ytncbhnmhaoblaaa
