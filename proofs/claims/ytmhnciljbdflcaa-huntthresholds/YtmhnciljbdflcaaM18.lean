/-
  Words and contracts that the proof leans on.
-/
import Derived.Test.YtmhnciljbdflcaaM12
import Derived.Test.YtmhnciljbdflcaaM16
import Derived.Test.YtmhnciljbdflcaaM17
import Derived.Test.YtmhnciljbdflcaaM8
import Derived.Lib.SliceRun
import Derived.Test.YtmhnciljbdflcaaM14
import Derived.Deep.QuietTactic
import Derived.BigQuiet
namespace Go.Proofs.Ytmhnciljbdflcaa
open Go.RowKit

theorem cnt_countP (t : List Int) (j : Int) : t.countP (· < j) = cntL t j := by unfold cntL; rw [List.countP_eq_length_filter]

set_option maxHeartbeats 800000 in
theorem tfind_any (A : Option Addr) (n c : Nat) (t : List Int) (j : Int) (w : World) (hn : t.length = n) (hb : n ≤ 1048576) (hs : Asc t) (hr : Row w A (iv t)) :
    Calls Try.prog 28 #[.slice A n c, .int .i64 j] w fun e w' => e = .returned (.int .i64 (cntL t j : Nat)) ∧ ∃ q, w' = w.drewN q := by
  have C := Lib.hid (search_any A n c t j w hn hb hs hr)
  rw [cnt_countP] at C
  clear hs hr hn
  generalize cntL t j = k at *
  go_enter Try.func28, Try.ntmps28
  go_wp2_with fail
  refine C.out.mono ?_
  rintro e w1 ⟨⟨b, rfl⟩, q, rfl⟩
  go_wp2_with fail
  go_ret
  exact ⟨rfl, q, rfl⟩

end Go.Proofs.Ytmhnciljbdflcaa

namespace Go.Proofs.Ytmhnciljbdflcaa
open Go.RowKit

/-- What place leaves: the last of js, from f on, all go to place k of t. -/
def PlcTo (t js : List Int) (n m : Nat) (w : World) (e : Ending) (w' : World) : Prop :=
  (∃ k f : Nat, e = .returned (.tuple #[.int .i64 (k : Int), .int .i64 (f : Int)]) ∧ k ≤ n ∧ f < m ∧ ∀ i x, f ≤ i → js[i]? = some x → cntL t x = k) ∧ ∃ q, w' = w.drewN q

set_option maxRecDepth 100000 in
set_option maxHeartbeats 1600000 in
theorem place_any (A B : Option Addr) (n m c d : Nat) (t js : List Int) (w : World) (hn : t.length = n) (hm : js.length = m) (hb : n ≤ 1048576) (hb' : m ≤ 1048576) (h0 : 0 < m) (ht : Asc t) (hj : Asc js) (h1 : Row w A (iv t)) (h2 : Row w B (iv js)) :
    Calls Try.prog 25 #[.slice A n c, .slice B m d] w (PlcTo t js n m w) := by
  obtain ⟨M, rfl⟩ : ∃ M, m = M + 1 := ⟨m - 1, by omega⟩
  have hMl : M < js.length := by omega
  obtain ⟨g, o, rfl, hc⟩ := h2.int hMl
  have HX : js[M]? = some js[M] := List.getElem?_eq_getElem hMl
  generalize js[M] = x at *
  have C := Lib.hid (tfind_any A n c t x w hn hb ht h1)
  have hkn := cnt_le t x
  rw [hn] at hkn
  have HS : Hid (∀ i y, M ≤ i → js[i]? = some y → cntL t y = cntL t x) := place_one (by omega) HX
  have e1 : ((M + 1 : Nat) : Int) - 1 = (M : Int) := by omega
  generalize cntL t x = k at *
  have HN := Lib.hid hn
  have HM := Lib.hid hm
  have HT := Lib.hid ht
  have HJ := Lib.hid hj
  clear hn hm ht hj HX
  go_enter Try.func25, Try.ntmps25
  go_wp2_with fail
  refine C.out.mono ?_
  rintro e w1 ⟨rfl, q0, rfl⟩
  clear C hc
  go_wp2_with fail
  go_loopw [5] (fun v wr => ∃ f q : Nat, f ≤ M ∧ v = .int .i64 (f : Int) ∧ wr = w.drewN q ∧ Hid (∀ i y, f ≤ i → js[i]? = some y → cntL t y = k)) (fun v _ => (intOf v).toNat)
  case atStart => exact ⟨M, _, Nat.le_refl _, rfl, rfl, HS.out⟩
  case round =>
    clear HS
    obtain ⟨f, q, hf, rfl, rfl, HH⟩ := hrel
    by_cases hf0 : f = 0
    · subst hf0
      clear h1 h2
      go_wp2_with fail
      go_quiet (fail)
      go_wp2_with fail
      go_ret2
      unfold PlcTo
      exact ⟨⟨k, 0, rfl, hkn, by omega, HH.out⟩, _, by rw [World.drewN_drewN]⟩
    · obtain ⟨F, rfl⟩ : ∃ F, f = F + 1 := ⟨f - 1, by omega⟩
      have hFl : F < js.length := by rw [HM.out]; omega
      obtain ⟨g', o', e', hcj⟩ := h2.int hFl
      cases e'
      have HY : Hid (js[F]? = some js[F]) := List.getElem?_eq_getElem hFl
      generalize js[F] = y at *
      have e2 : ((F + 1 : Nat) : Int) - 1 = (F : Int) := by omega
      by_cases hk0 : k = 0
      · subst hk0
        have HR : Hid (∀ i y, F ≤ i → js[i]? = some y → cntL t y = 0) := place_more HT.out HJ.out (by rw [HM.out]; omega) HH.out (fun z y h => by omega)
        clear HH h1 h2 HY
        go_wp2_with fail
        go_quiet (fail)
        go_wp2_with fail
        go_roundw
        case rel => exact ⟨F, _, by omega, by go_num, rfl, HR.out⟩
        case measure => first | omega | (simp [RowKit.intOf] <;> omega)
      · obtain ⟨K, rfl⟩ : ∃ K, k = K + 1 := ⟨k - 1, by omega⟩
        have hKl : K < t.length := by rw [HN.out]; omega
        have hKn : K < n := by omega
        obtain ⟨gt, ot, rfl, hct⟩ := h1.int hKl
        have HZ : Hid (t[K]? = some t[K]) := List.getElem?_eq_getElem hKl
        generalize t[K] = z at *
        have e3 : IntKind.i64.wrap (K : Int) = (K : Int) := IntWalk.i64_in _ (by omega)
        have e4 : IntKind.i64.wrap (F : Int) = (F : Int) := IntWalk.i64_in _ (by omega)
        have t1 : ((K : Int) + 1 == 0) = false := by simp; omega
        by_cases hzy : z < y
        · have HR : Hid (∀ i y, F ≤ i → js[i]? = some y → cntL t y = K + 1) := place_more HT.out HJ.out (by rw [HM.out]; omega) HH.out (fun z' y' _ e1 e2 => by
            rw [Nat.add_sub_cancel, HZ.out] at e1
            rw [HY.out] at e2
            cases e1
            cases e2
            exact hzy)
          have t2 : decide (z < y) = true := by simpa using hzy
          clear HH h1 h2 HY HZ hzy
          go_wp2_with fail
          go_quiet (fail)
          go_wp2_with fail
          go_roundw
          case rel => exact ⟨F, _, by omega, by go_num, rfl, HR.out⟩
          case measure => first | omega | (simp [RowKit.intOf] <;> omega)
        · have t2 : decide (z < y) = false := by simpa using hzy
          clear h1 h2 HY HZ hzy
          go_wp2_with fail
          go_quiet (fail)
          go_wp2_with fail
          go_ret2
          unfold PlcTo
          exact ⟨⟨K + 1, F + 1, rfl, hkn, by omega, HH.out⟩, _, by rw [World.drewN_drewN]⟩

end Go.Proofs.Ytmhnciljbdflcaa
