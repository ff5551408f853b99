/-
  Words and contracts that the proof leans on.
-/
import Derived.Test.YtdedmmeefffpkaaM12
import Derived.Test.YtdedmmeefffpkaaM17
import Derived.Test.YtdedmmeefffpkaaM14
import Derived.Test.YtdedmmeefffpkaaM22
import Derived.BigQuiet
import Derived.Deep.DeepCutAuto
import Derived.OrdersHeld
import Derived.Deep.WholeRow
namespace Go.Proofs.Ytdedmmeefffpkaa
open Go.RowKit

theorem up_quo {n t : Nat} (ht : 1 ≤ t) : ((n : Int) + (t : Int) - 1).tdiv (t : Int) = (upN n t : Nat) := by
  rw [show (n : Int) + (t : Int) - 1 = ((n + t - 1 : Nat) : Int) by omega]
  rw [Int.tdiv_eq_ediv_of_nonneg (by omega)]
  unfold upN
  simp
theorem upN_small {n t : Nat} (ht : 1 ≤ t) : upN n t ≤ n := by
  have := upN_le (n := n) (Nat.le_refl 1) ht
  unfold upN at this ⊢
  simpa using this

set_option maxRecDepth 100000 in
set_option maxHeartbeats 800000 in
theorem quot_any (n t : Nat) (w : World) (hn : n ≤ 1048576) (ht : 1 ≤ t ∧ t ≤ 3) :
    Calls Try.prog 22 #[.int .i64 (n : Int), .int .i64 (t : Int)] w fun e w' => e = .returned (.int .i64 (upN n t : Nat)) ∧ w = w' := by
  have e1 := up_quo (n := n) ht.1
  have e2 := upN_small (n := n) ht.1
  have e3 : IntKind.i64.wrap ((upN n t : Nat) : Int) = ((upN n t : Nat) : Int) := IntWalk.i64_in _ (by omega)
  have hz : ((t : Int) == 0) = false := by simp; omega
  generalize upN n t = u at *
  go_enter Try.func22, Try.ntmps22
  go_wp2_with fail
  go_ret
  exact ⟨rfl, rfl⟩

/-- A row that does not stand in a told block. -/
def RowN (b : Nat) (w : World) (A : Option Addr) (us : List Value) : Prop := Row w A us ∧ (us ≠ [] → ∀ ad, A = some ad → ad.block ≠ b)
theorem RowN.grown {b : Nat} {w w' : World} {A : Option Addr} {us : List Value} (h : RowN b w A us) (hg : w.grownBy w' (some b)) : RowN b w' A us := by
  refine ⟨fun hne => ?_, h.2⟩
  obtain ⟨g, o, rfl, hc⟩ := h.1 hne
  refine ⟨g, o, rfl, fun j v hv => ?_⟩
  have h1 := hc j v hv
  have h2 := World.block_lt_of_cell? _ _ h1
  rw [← h1]
  exact World.cell?_of_block (a := ⟨g, o + j, none⟩) (hg.block g h2 (fun e => h.2 hne ⟨g, o, none⟩ rfl (by injection e)))

set_option maxRecDepth 100000 in
/-- l[lo:hi]. -/
theorem sliceI (A : Option Addr) (n c lo hi : Nat) (l : List Int) (hn : l.length = n) (hc : n ≤ c) (h1 : lo ≤ hi) (h2 : hi ≤ n) :
    ∃ A' c', (∀ w, (Instr.sliceAt 31 (.slice A n c) (some (.int .i64 (lo : Int))) (some (.int .i64 (hi : Int))) none).run Try.prog w = .ok (.slice A' (hi - lo) c') w) ∧ hi - lo ≤ c' ∧ (∀ b w0, RowN b w0 A (iv l) → RowN b w0 A' (iv ((l.drop lo).take (hi - lo)))) := by
  refine ⟨if c = lo then A else A.map (·.add (lo * 1)), c - lo, fun w => ?_, by omega, ?_⟩
  · rw [run_sliceAt_slice w 31 _ _ _ _ Try.underlying31, run_slice_lh w 31 A n c Try.underlying31 .i64 .i64 (lo : Int) (hi : Int) (by omega) (by omega) (by omega), size_int]
    simp [Result.andThen, sliced]
  · intro b w0 h
    refine ⟨?_, fun hne ad he => ?_⟩
    · have := h.1.cut lo n c (by omega) (by rw [iv_length]; omega) (by rw [iv_length]; omega)
      rw [iv_dropX, List.take_of_length_le (by rw [iv_length, List.length_drop]; omega)] at this
      rw [Nat.mul_one, ← iv_takeX]
      exact this.take _
    · have hl : iv l ≠ [] := by
        intro e
        have : l = [] := by simpa [iv] using e
        subst this
        exact hne (by simp [iv])
      by_cases e : c = lo
      · rw [if_pos e] at he
        exact h.2 hl ad he
      · rw [if_neg e] at he
        obtain ⟨ad0, h1, rfl⟩ := Option.map_eq_some_iff.1 he
        have := h.2 hl ad0 h1
        unfold Addr.add
        split <;> exact this

set_option maxRecDepth 100000 in
set_option maxHeartbeats 800000 in
theorem partI_any (A : Option Addr) (n c k t : Nat) (l : List Int) (hn : l.length = n) (hb : n ≤ 1048576) (hc : n ≤ c) (ht : 1 ≤ t ∧ t ≤ 3) (hk : k * t ≤ n) :
    ∃ A' c', (∀ b w0, RowN b w0 A (iv l) → RowN b w0 A' (iv (pc l k t))) ∧ ∀ w, Calls Try.prog 23 #[.slice A n c, .int .i64 (k : Int), .int .i64 (t : Int)] w fun e w' => e = .returned (.slice A' (pc l k t).length c') ∧ w = w' := by
  obtain ⟨m, hm⟩ : ∃ m, min ((k + 1) * t) n = m := ⟨_, rfl⟩
  obtain ⟨lo, hlo⟩ : ∃ lo, k * t = lo := ⟨_, rfl⟩
  obtain ⟨hi, hhi⟩ : ∃ hi, (k + 1) * t = hi := ⟨_, rfl⟩
  have hlh : hi = lo + t := by rw [← hhi, Nat.add_mul, Nat.one_mul, hlo]
  have hi2 : hi ≤ 1048580 := by have : k * t ≤ n := by first | exact hk | exact Nat.le_of_lt hk
                                omega
  have hk1 : k ≤ lo := by rw [← hlo]; exact Nat.le_mul_of_pos_right k (by omega)
  rw [hhi] at hm
  rw [hlo] at hk
  obtain ⟨A', c', hs, hc', hA⟩ := sliceI A n c lo m l hn hc (by omega) (by omega)
  have e1 : (k : Int) * (t : Int) = (lo : Int) := by rw [← hlo]; simp
  have e2 : ((k : Int) + 1) * (t : Int) = (hi : Int) := by rw [← hhi]; simp
  have em : (if n < hi then (n : Int) else (hi : Int)) = (m : Int) := by split <;> omega
  have em' : (if (n : Int) < (hi : Int) then (n : Int) else (hi : Int)) = (m : Int) := by split <;> omega
  have e : m - lo = (pc l k t).length := by rw [pc_length, hn, hlo]; omega
  have e' : (l.drop lo).take (m - lo) = pc l k t := by
    unfold pc
    rw [hlo]
    rcases Nat.le_total t (n - lo) with h | h
    · rw [show m - lo = t by omega]
    · rw [List.take_of_length_le (by rw [List.length_drop]; omega), List.take_of_length_le (by rw [List.length_drop]; omega)]
  rw [e'] at hA
  rw [e] at hs
  refine ⟨A', c', hA, fun w => ?_⟩
  generalize (pc l k t).length = M at *
  clear hA hc' hm hlo hhi hn hlh e e'
  go_enter Try.func23, Try.ntmps23
  go_wp2_with fail
  go_ret
  exact ⟨rfl, rfl⟩

set_option maxRecDepth 100000 in
set_option maxHeartbeats 800000 in
theorem partB_any (G n c k t : Nat) (w : World) (hb : n ≤ 1048576) (hc : n ≤ c) (ht : 1 ≤ t ∧ t ≤ 3) (hk : k * t < n) :
    Calls Try.prog 27 #[.slice (some ⟨G, 0, none⟩) n c, .int .i64 (k : Int), .int .i64 (t : Int)] w fun e w' => (∃ c', e = .returned (.slice (some ⟨G, k * t, none⟩) (min t (n - k * t)) c') ∧ min t (n - k * t) ≤ c') ∧ w = w' := by
  obtain ⟨m, hm⟩ : ∃ m, min ((k + 1) * t) n = m := ⟨_, rfl⟩
  obtain ⟨lo, hlo⟩ : ∃ lo, k * t = lo := ⟨_, rfl⟩
  obtain ⟨hi, hhi⟩ : ∃ hi, (k + 1) * t = hi := ⟨_, rfl⟩
  have hlh : hi = lo + t := by rw [← hhi, Nat.add_mul, Nat.one_mul, hlo]
  have hi2 : hi ≤ 1048580 := by have : k * t ≤ n := by first | exact hk | exact Nat.le_of_lt hk
                                omega
  have hk1 : k ≤ lo := by rw [← hlo]; exact Nat.le_mul_of_pos_right k (by omega)
  rw [hhi] at hm
  rw [hlo] at hk ⊢
  obtain ⟨A', c', hs, hc', hA⟩ := sliceB (some ⟨G, 0, none⟩) n c lo m (by omega) (by omega)
  have e3 : A' = some ⟨G, lo, none⟩ := by
    rw [hA (by omega)]
    show some (Addr.add ⟨G, 0, none⟩ lo) = _
    rw [Addr.add_lit, Nat.zero_add]
  clear hA
  subst e3
  have e1 : (k : Int) * (t : Int) = (lo : Int) := by rw [← hlo]; simp
  have e2 : ((k : Int) + 1) * (t : Int) = (hi : Int) := by rw [← hhi]; simp
  have em : (if n < hi then (n : Int) else (hi : Int)) = (m : Int) := by split <;> omega
  have em' : (if (n : Int) < (hi : Int) then (n : Int) else (hi : Int)) = (m : Int) := by split <;> omega
  have HF : Hid ((∃ c'', Ending.returned (.slice (some ⟨G, lo, none⟩) (m - lo) c') = .returned (.slice (some ⟨G, lo, none⟩) (min t (n - lo)) c'') ∧ min t (n - lo) ≤ c'') ∧ Aside (w = w)) := ⟨⟨c', by rw [show min t (n - lo) = m - lo by omega], by omega⟩, rfl⟩
  clear hc' hm hlo hhi hlh
  go_enter Try.func27, Try.ntmps27
  go_wp2_with fail
  go_ret
  exact ⟨HF.out.1, rfl⟩

end Go.Proofs.Ytdedmmeefffpkaa

namespace Go.Proofs.Ytdedmmeefffpkaa
open Go.RowKit

theorem or_key9 {K k : Nat} (hk : k < 9) (h : K < 2 ^ k) : bits .or .i64 (K : Int) (wrap64 (2 ^ k)) = ((K + 2 ^ k : Nat) : Int) := by
  have : ∀ k : Nat, k < 9 → ∀ K : Nat, K < 2 ^ k → bits .or .i64 (K : Int) (wrap64 (2 ^ k)) = ((K + 2 ^ k : Nat) : Int) := by decide +kernel
  exact this k hk K h

def EqRel (f : Nat → Nat) (s n : Nat) (w : World) (v i : Value) (wr : World) : Prop := ∃ k : Nat, k ≤ n ∧ i = .int .i64 (k : Int) ∧ v = .int .i64 (num f (s + k) : Nat) ∧ wr = w
def EqOut (f : Nat → Nat) (t n : Nat) (w : World) (v i : Value) (wr : World) : Prop := ∃ k : Nat, k ≤ n ∧ i = .int .i64 (k : Int) ∧ v = .int .i64 (num f (k * t) : Nat) ∧ wr = w

set_option maxRecDepth 100000 in
set_option maxHeartbeats 1600000 in
theorem equal_any (sh t : Nat) (A B : Option Addr) (n m c d : Nat) (p q : List Int) (w : World) (ht : 1 ≤ t ∧ t ≤ 3) (hs : w.cell? ⟨sh, 3, none⟩ = some (.int .i64 (t : Int))) (hn : p.length = n) (hm : q.length = m) (hn3 : n ≤ t) (hm3 : m ≤ t) (h1 : Row w A (iv p)) (h2 : Row w B (iv q)) :
    Calls Try.prog 26 #[.pointer (some ⟨sh, 0, none⟩), .slice A n c, .slice B m d] w fun e w' => e = .returned (.int .i64 (eqN t p q : Nat)) ∧ w = w' := by
  have HA : Hid (num (eqF t p q) (n * t) = eqN t p q) := by show _ = _; rw [← hn]; exact eq_all (by omega) ht.1
  have HR : Hid (∀ i, num (eqF t p q) (i * t + m) = num (eqF t p q) ((i + 1) * t)) := fun i => by rw [← hm]; exact eq_row (by omega)
  have HE : Hid (∀ i k, k < t → eqF t p q (i * t + k) = if alikeAt p q i k = true then 1 else 0) := fun i k h => eqF_at h
  have HL := Lib.hid (num_lt (eqF_le t p q))
  have HN := Lib.hid hn
  have HM := Lib.hid hm
  clear hn hm
  generalize eqF t p q = f at *
  generalize eqN t p q = E at *
  go_enter Try.func26, Try.ntmps26
  go_wp2_with fail
  go_loopw [7, 14] (fun v i wr => EqOut f t n w v i wr) (fun _ i _ => n - (intOf i).toNat)
  case atStart => exact ⟨0, Nat.zero_le _, rfl, by rw [Nat.zero_mul]; rfl, rfl⟩
  case round =>
    obtain ⟨i, hi, rfl, rfl, rfl⟩ := hrel
    by_cases hlt : i < n
    · obtain ⟨g, o, rfl, hc⟩ := h1.int (k := i) (by rw [HN.out]; exact hlt)
      have HX : Hid (p[i]? = some (p[i]'(by rw [HN.out]; exact hlt))) := List.getElem?_eq_getElem _
      generalize p[i]'(by rw [HN.out]; exact hlt) = x at *
      clear h1
      obtain ⟨X, hX⟩ : ∃ X, i * t = X := ⟨_, rfl⟩
      have HZ := Lib.hid hX
      have hX6 : X ≤ 6 := by rw [← hX]; exact Nat.mul_le_mul (show i ≤ 2 by omega) ht.2
      have e1 : (i : Int) * (t : Int) = (X : Int) := by rw [← hX]; simp
      rw [hX]
      clear hX
      go_wp2_with fail
      go_loopw [7, 21] (fun v k w' => EqRel f X m wr v k w') (fun _ k _ => m - (intOf k).toNat)
      case atStart => exact ⟨0, Nat.zero_le _, rfl, rfl, rfl⟩
      case round =>
        obtain ⟨k, hk, rfl, rfl, rfl⟩ := hrel
        by_cases hkt : k < m
        · obtain ⟨g', o', rfl, hd⟩ := h2.int (k := k) (by rw [HM.out]; exact hkt)
          have HY : Hid (q[k]? = some (q[k]'(by rw [HM.out]; exact hkt))) := List.getElem?_eq_getElem _
          generalize q[k]'(by rw [HM.out]; exact hkt) = y at *
          clear h2
          have hKL := HL.out (X + k)
          have HV : Hid (num f (X + (k + 1)) = num f (X + k) + (if x = y then 1 else 0) * 2 ^ (X + k)) := by
            show _ = _
            have e := HE.out i k (by omega)
            rw [HZ.out] at e
            show num f (X + k) + f (X + k) * 2 ^ (X + k) = _
            rw [e]
            unfold alikeAt
            rw [HX.out, HY.out]
            simp
          generalize num f (X + k) = K at *
          by_cases hxy : x = y
          · subst hxy
            rw [if_pos rfl, Nat.one_mul] at HV
            have HO := Lib.hid (or_key9 (by omega) hKL)
            go_wp2_with fail
            go_roundw
            case rel => exact ⟨k + 1, hkt, by go_num, by rw [HV.out]; exact congrArg (Value.int .i64) HO.out, rfl⟩
            case measure => simp [intOf]; omega
          · rw [if_neg hxy, Nat.zero_mul, Nat.add_zero] at HV
            have hz : (x == y) = false := by simpa using hxy
            clear hxy
            go_wp2_with fail
            go_roundw
            case rel => exact ⟨k + 1, hkt, by go_num, by rw [HV.out]; rfl, rfl⟩
            case measure => simp [intOf]; omega
        · obtain rfl : k = m := by omega
          have e := HR.out i
          rw [HZ.out] at e
          have HT := Lib.hid e
          clear e
          go_wp2_with fail
          go_roundw
          case rel => exact ⟨i + 1, hlt, by go_num, by rw [HT.out], rfl⟩
          case measure => simp [intOf]; omega
    · obtain rfl : i = n := by omega
      go_wp2_with fail
      go_ret
      exact ⟨by rw [HA.out]; rfl, rfl⟩

def cv6 (x y z u v s : Value) : Nat → Value
  | 0 => x
  | 1 => y
  | 2 => z
  | 3 => u
  | 4 => v
  | _ => s
theorem cv6_cases {P : Nat → Prop} (h0 : P 0) (h1 : P 1) (h2 : P 2) (h3 : P 3) (h4 : P 4) (h5 : P 5) (i : Nat) (hi : i < 6) : P i := by
  have : i = 0 ∨ i = 1 ∨ i = 2 ∨ i = 3 ∨ i = 4 ∨ i = 5 := by omega
  rcases this with rfl | rfl | rfl | rfl | rfl | rfl <;> assumption
/-- The sheet in block sh. -/
def Sht (A B : Option Addr) (n m c d t b sh : Nat) (w : World) : Prop :=
  w.rowIs sh 45 6 (cv6 (.pointer (some ⟨b, 0, none⟩)) (.slice A n c) (.slice B m d) (.int .i64 (t : Int)) (.int .i64 (upN n t : Nat)) (.int .i64 (upN m t : Nat)))
section
variable {A B : Option Addr} {n m c d t b sh : Nat} {w w' : World}
theorem Sht.c0 (h : Sht A B n m c d t b sh w) : w.cell? ⟨sh, 0, none⟩ = some (.pointer (some ⟨b, 0, none⟩)) := World.rowIs.cell h (by omega)
theorem Sht.c1 (h : Sht A B n m c d t b sh w) : w.cell? ⟨sh, 1, none⟩ = some (.slice A n c) := World.rowIs.cell h (by omega)
theorem Sht.c2 (h : Sht A B n m c d t b sh w) : w.cell? ⟨sh, 2, none⟩ = some (.slice B m d) := World.rowIs.cell h (by omega)
theorem Sht.c3 (h : Sht A B n m c d t b sh w) : w.cell? ⟨sh, 3, none⟩ = some (.int .i64 (t : Int)) := World.rowIs.cell h (by omega)
theorem Sht.c4 (h : Sht A B n m c d t b sh w) : w.cell? ⟨sh, 4, none⟩ = some (.int .i64 (upN n t : Nat)) := World.rowIs.cell h (by omega)
theorem Sht.c5 (h : Sht A B n m c d t b sh w) : w.cell? ⟨sh, 5, none⟩ = some (.int .i64 (upN m t : Nat)) := World.rowIs.cell h (by omega)
theorem Sht.lt (h : Sht A B n m c d t b sh w) : sh < w.heap.size := World.rowIs.lt h
theorem Sht.grown {r : Option Nat} (h : Sht A B n m c d t b sh w) (hg : w.grownBy w' r) (hne : some sh ≠ r) : Sht A B n m c d t b sh w' := rowIs_grown h hg hne
theorem Sht.below (h : Sht A B n m c d t b sh w) (hb : Below w.heap.size w w') : Sht A B n m c d t b sh w' := h.grown (below_grown hb none) (by simp)
theorem Sht.drewN (h : Sht A B n m c d t b sh w) (q : Nat) : Sht A B n m c d t b sh (w.drewN q) := h
theorem Sht.drew (h : Sht A B n m c d t b sh w) : Sht A B n m c d t b sh w.drew := h
theorem Sht.set (h : Sht A B n m c d t b sh w) {g i : Nat} (hne : sh ≠ g) (v : Value) : Sht A B n m c d t b sh (w.setCell ⟨g, i, none⟩ v) := World.rowIs.setOther h hne v
end

set_option maxRecDepth 100000 in
set_option maxHeartbeats 800000 in
theorem divide_any (A B : Option Addr) (n m c d t b : Nat) (w : World) (hn : n ≤ 1048576) (hm : m ≤ 1048576) (ht : 1 ≤ t ∧ t ≤ 3) (h0 : w.cell? ⟨b, 0, none⟩ = some (.int .i64 (t : Int))) :
    Calls Try.prog 17 #[.pointer (some ⟨b, 0, none⟩), .slice A n c, .slice B m d] w fun e w' => e = .returned (.pointer (some ⟨w.heap.size, 0, none⟩)) ∧ Sht A B n m c d t b w.heap.size w' ∧ Below w.heap.size w w' ∧ w'.heap.size = w.heap.size + 1 := by
  have HS : Hid (Sht A B n m c d t b w.heap.size (w.alloc (.cells #[.pointer (some ⟨b, 0, none⟩), .slice A n c, .slice B m d, .int .i64 (t : Int), .int .i64 (upN n t : Nat), .int .i64 (upN m t : Nat)] 45)) ∧ Below w.heap.size w (w.alloc (.cells #[.pointer (some ⟨b, 0, none⟩), .slice A n c, .slice B m d, .int .i64 (t : Int), .int .i64 (upN n t : Nat), .int .i64 (upN m t : Nat)] 45)) ∧ Aside ((w.alloc (.cells #[.pointer (some ⟨b, 0, none⟩), .slice A n c, .slice B m d, .int .i64 (t : Int), .int .i64 (upN n t : Nat), .int .i64 (upN m t : Nat)] 45)).heap.size = w.heap.size + 1)) :=
    ⟨World.rowIs_alloc w _ _ _ (cv6_cases rfl rfl rfl rfl rfl rfl), (Below.refl _ _).alloc (Nat.le_refl _) _, by simp [Aside]⟩
  have HX := Lib.hid (side_any b t w h0)
  have HN := Lib.hid (quot_any n t w hn ht)
  have HM := Lib.hid (quot_any m t w hm ht)
  generalize upN n t = dn at *
  generalize upN m t = ac at *
  clear h0
  go_enter Try.func17, Try.ntmps17
  go_wp2_with fail
  refine HX.out.mono ?_
  rintro e w' ⟨rfl, rfl⟩
  clear HX
  go_wp2_with fail
  refine HN.out.mono ?_
  rintro e w' ⟨rfl, rfl⟩
  clear HN
  go_wp2_with fail
  refine HM.out.mono ?_
  rintro e w' ⟨rfl, rfl⟩
  clear HM
  go_wp2_with fail
  go_ret
  exact ⟨rfl, HS.out.1, HS.out.2.1, HS.out.2.2⟩

end Go.Proofs.Ytdedmmeefffpkaa

namespace Go.Proofs.Ytdedmmeefffpkaa
open Go.RowKit

/-- Bytes in memory. -/
def BR (w : World) (G n : Nat) (f : Nat → Nat) : Prop := w.rowIs G 5 n (fun j => .int .u8 (f j : Int))
section
variable {w w' : World} {G n : Nat} {f : Nat → Nat}
theorem BR.grown {r : Option Nat} (h : BR w G n f) (hg : w.grownBy w' r) (hne : some G ≠ r) : BR w' G n f := rowIs_grown h hg hne
theorem BR.drew (h : BR w G n f) : BR w.drew G n f := h
theorem BR.drewN (h : BR w G n f) (q : Nat) : BR (w.drewN q) G n f := h
theorem BR.other (h : BR w G n f) {g i : Nat} (hne : G ≠ g) (v : Value) : BR (w.setCell ⟨g, i, none⟩ v) G n f := World.rowIs.setOther h hne v
theorem BR.congr {f' : Nat → Nat} (h : BR w G n f) (hf : ∀ i, i < n → f' i = f i) : BR w G n f' := World.rowIs.congr h fun i hi => by rw [hf i hi]
theorem BR.put {f' : Nat → Nat} (h : BR w G n f) (i : Nat) {v : Int} (hv : v = (f' i : Int)) (hf : ∀ j, j < n → j ≠ i → f' j = f j) : BR (w.setCell ⟨G, i, none⟩ (.int .u8 v)) G n f' := by
  subst hv
  refine World.rowIs.congr (World.rowIs.set h i _) fun j hj => ?_
  by_cases e : j = i
  · subst e; rw [if_pos rfl]
  · rw [if_neg e, hf j hj e]
theorem BR.cell (h : BR w G n f) {i : Nat} (hi : i < n) : w.cell? ⟨G, i, none⟩ = some (.int .u8 (f i : Int)) := World.rowIs.cell h hi
theorem BR.frozen (h : BR w G n f) (i : Nat) : w.frozen? ⟨G, i, none⟩ = false := World.rowIs.frozen h i
theorem BR.row (h : BR w G n f) (hf : ∀ j, f j ≤ 1) : Row w (some ⟨G, 0, none⟩) (bv (byL f n)) := by
  intro _
  refine ⟨G, 0, rfl, fun j v hv => ?_⟩
  unfold bv at hv
  rw [List.getElem?_map] at hv
  obtain ⟨x, hx, rfl⟩ := Option.map_eq_some_iff.1 hv
  have hj : j < n := by have := (List.getElem?_eq_some_iff.1 hx).1; rwa [byL_length] at this
  rw [byL_get hj] at hx
  injection hx with hx
  rw [Nat.zero_add, h.cell hj, ← hx, byte_small (hf j)]
end

/-- Blocks of the call's own. -/
def Own14 (lo hi g : Nat) : Prop := lo ≤ g ∧ g < hi
/-- What stays while squares are looked up. -/
def Ps (A B : Option Addr) (n m c d t b sh lo hi : Nat) (w0 w : World) : Prop := w0.grownBy w (some b) ∧ Sht A B n m c d t b sh w ∧ TilX (Own14 lo hi) t b w ∧ hi ≤ w.heap.size
section
variable {A B : Option Addr} {n m c d t b sh lo hi : Nat} {w0 w w' : World}
theorem TilX.put {X : Nat → Prop} (h : TilX X t b w) {g i : Nat} (hb : b ≠ g) (hX : X g) (v : Value) : TilX X t b (w.setCell ⟨g, i, none⟩ v) := by
  rcases h with ⟨v0, h⟩ | ⟨k, h1, h2, h3, h4⟩
  · exact .inl ⟨v0, World.rowIs.setOther h hb v⟩
  · exact .inr ⟨k, World.rowIs.setOther h1 hb v, World.rowIs.setOther h2 (fun e => h4 (by show X k; rw [show k = g from e]; exact hX)) v, h3, h4⟩
theorem Ps.put (h : Ps A B n m c d t b sh lo hi w0 w) {g i : Nat} (h0 : w0.heap.size = lo) (hb : b < lo) (hg : Own14 lo hi g) (hne : sh ≠ g) (v : Value) : Ps A B n m c d t b sh lo hi w0 (w.setCell ⟨g, i, none⟩ v) := by
  obtain ⟨h1, h2, h3, h4⟩ := h
  have := hg.1
  exact ⟨grown_setS h1 (.inr (by omega)), h2.set hne v, h3.put (by omega) hg v, by simpa using h4⟩
theorem Ps.drewN (h : Ps A B n m c d t b sh lo hi w0 w) (q : Nat) : Ps A B n m c d t b sh lo hi w0 (w.drewN q) := ⟨grown_drewN h.1 q, h.2.1, h.2.2.1.drewN q, h.2.2.2⟩
theorem Ps.drew (h : Ps A B n m c d t b sh lo hi w0 w) : Ps A B n m c d t b sh lo hi w0 w.drew := ⟨grown_drew h.1, h.2.1, h.2.2.1.below ((Below.refl _ _).drew), h.2.2.2⟩
theorem Ps.look (h : Ps A B n m c d t b sh lo hi w0 w) (hg : w.grownBy w' (some b)) (hT : TilE (Own14 lo hi) t b w') (hb : b < lo) (hs : Own14 lo hi sh) : Ps A B n m c d t b sh lo hi w0 w' := by
  obtain ⟨h1, h2, h3, h4⟩ := h
  have := hs.1
  exact ⟨grown_more h1 hg (fun r e => .inr e), h2.grown hg (by intro e; injection e; omega), .inr hT, Nat.le_trans h4 hg.size⟩
theorem Ps.fits (h : Ps A B n m c d t b sh lo hi w0 w) : ∀ g, Own14 lo hi g → g < w.heap.size := fun _ hg => Nat.lt_of_lt_of_le hg.2 h.2.2.2
end

/-- Row r * t of the table up to place x is row (r + 1) * t. -/
def dMix (t : Nat) (a l : List Int) (r x : Nat) (j : Nat) : Nat := if j < x then stp t a l (r + 1) j else stp t a l r j
def sMix (t : Nat) (a l : List Int) (r oS x : Nat) (sF : Nat → Nat) (i : Nat) : Nat := if oS ≤ i ∧ i < oS + x then sdN t a l r (i - oS) else sF i
theorem dMix_le (t : Nat) (a l : List Int) (r x j : Nat) : dMix t a l r x j ≤ 1 := by unfold dMix; split <;> exact stp_le _ _ _ _ _
theorem dMix_at (t : Nat) (a l : List Int) (r x : Nat) : dMix t a l r (x + 1) x = stp t a l (r + 1) x := if_pos (by omega)
theorem dMix_ne (t : Nat) (a l : List Int) (r x : Nat) {j : Nat} (h : j ≠ x) : dMix t a l r (x + 1) j = dMix t a l r x j := by
  unfold dMix
  by_cases e : j < x
  · rw [if_pos (by omega), if_pos e]
  · rw [if_neg (by omega), if_neg e]
theorem sMix_at (t : Nat) (a l : List Int) (r oS x : Nat) (sF : Nat → Nat) : sMix t a l r oS (x + 1) sF (oS + x) = sdN t a l r x := by
  unfold sMix
  rw [if_pos (by omega), Nat.add_sub_cancel_left]
theorem sMix_ne (t : Nat) (a l : List Int) (r oS x : Nat) (sF : Nat → Nat) {i : Nat} (h : i ≠ oS + x) : sMix t a l r oS (x + 1) sF i = sMix t a l r oS x sF i := by
  unfold sMix
  by_cases e : oS ≤ i ∧ i < oS + x
  · rw [if_pos (by omega), if_pos e]
  · rw [if_neg (by omega), if_neg e]
theorem upN_lt {n t r : Nat} (ht : 1 ≤ t) (h : r < upN n t) : r * t < n := by
  unfold upN at h
  have h1 := (Nat.le_div_iff_mul_le (by omega : 0 < t)).1 (show r + 1 ≤ (n + t - 1) / t from h)
  rw [Nat.add_mul, Nat.one_mul] at h1
  omega

/-- The head of a round of pass. -/
def PaRel (A B : Option Addr) (n m c d t b sh lo hi G S oS N r : Nat) (a l : List Int) (sF : Nat → Nat) (w0 : World) (left i : Value) (wr : World) : Prop :=
  ∃ k : Nat, k ≤ upN m t ∧ i = .int .i64 (k : Int) ∧ left = .int .i64 (lefN t a l r k : Nat) ∧ Ps A B n m c d t b sh lo hi w0 wr ∧ BR wr G m (dMix t a l r (k * t)) ∧ BR wr S N (sMix t a l r oS k sF)
/-- What pass leaves. -/
def PaMade (A B : Option Addr) (n m c d t b sh lo hi G S oS N r : Nat) (a l : List Int) (sF : Nat → Nat) (w0 : World) (e : Ending) (w' : World) : Prop :=
  e = .returned (.tuple #[]) ∧ Ps A B n m c d t b sh lo hi w0 w' ∧ BR w' G m (stp t a l (r + 1)) ∧ BR w' S N (sMix t a l r oS (upN m t) sF)
/-- What a look reads. -/
def PaS (B : Option Addr) (m d t b sh : Nat) (w : World) : Prop := w.cell? ⟨sh, 0, none⟩ = some (.pointer (some ⟨b, 0, none⟩)) ∧ w.cell? ⟨sh, 2, none⟩ = some (.slice B m d) ∧ w.cell? ⟨sh, 3, none⟩ = some (.int .i64 (t : Int))
theorem Sht.paS {A B : Option Addr} {n m c d t b sh : Nat} {w : World} (h : Sht A B n m c d t b sh w) : PaS B m d t b sh w := ⟨h.c0, h.c2, h.c3⟩
/-- The head of a round of its inner loop. -/
def PbRel (A B : Option Addr) (n m c d t b sh lo hi G S oS N r k X M : Nat) (a l : List Int) (sF : Nat → Nat) (w0 : World) (i : Value) (wr : World) : Prop :=
  ∃ j : Nat, j ≤ M ∧ i = .int .i64 (j : Int) ∧ Ps A B n m c d t b sh lo hi w0 wr ∧ BR wr G m (dMix t a l r (X + j)) ∧ BR wr S N (sMix t a l r oS (k + 1) sF)

set_option maxRecDepth 100000 in
set_option maxHeartbeats 3200000 in
theorem pass_any (A B : Option Addr) (n m c d t b sh lo hi G S oS N r cS : Nat) (a l : List Int) (C : Option Addr) (sF : Nat → Nat) (w0 w : World)
    (ht : 1 ≤ t ∧ t ≤ 3) (h0 : w0.heap.size = lo) (hbl : b < lo) (hsh : Own14 lo hi sh) (hG : Own14 lo hi G) (hS : Own14 lo hi S) (n1 : sh ≠ G) (n2 : sh ≠ S) (n3 : G ≠ S)
    (hn : a.length = n) (hm : l.length = m) (hb : n ≤ 1048576) (hb' : m ≤ 1048576) (hc : n ≤ c) (hd : m ≤ d) (ra : RowN b w0 A (iv a)) (rb : RowN b w0 B (iv l))
    (hr : r < upN n t) (hC : 0 < upN m t → C = some ⟨S, oS, none⟩) (hN : oS + upN m t ≤ N) (hP : Ps A B n m c d t b sh lo hi w0 w) (rG : BR w G m (stp t a l r)) (rS : BR w S N sF) :
    Calls Try.prog 18 #[.pointer (some ⟨sh, 0, none⟩), .int .i64 (r : Int), .slice (some ⟨G, 0, none⟩) m m, .slice C (upN m t) cS] w (PaMade A B n m c d t b sh lo hi G S oS N r a l sF w0) := by
  have hmx : Try.prog.follows .mixedOrders = true := by kernel_rfl
  have hac := upN_small (n := m) ht.1
  have hrt := upN_lt ht.1 hr
  have hr1 : r ≤ 1048576 := by have := upN_small (n := n) ht.1; omega
  obtain ⟨P, cP, hp1, hp2⟩ := partI_any A n c r t a hn hb hc ht (Nat.le_of_lt hrt)
  have rp := hp1 b w0 ra
  have HP : Hid (∀ q, Calls Try.prog 23 #[.slice A n c, .int .i64 (r : Int), .int .i64 (t : Int)] (w.drewN q) fun e w'' => e = .returned (.slice P (pc a r t).length cP) ∧ ∃ k, w'' = w.drewN k) := fun q =>
    (hp2 (w.drewN q)).mono fun e w'' h => ⟨h.1, q, h.2.symm⟩
  have hlp : (pc a r t).length ≤ t := by rw [pc_length]; omega
  have HM := Lib.hid hm
  have hsl := hP.2.1
  have c1 := hsl.c1
  have c3 := hsl.c3
  have HI := Lib.hid (show ∀ q, PaRel A B n m c d t b sh lo hi G S oS N r a l sF w0 (.int .i64 0) (.int .i64 0) (w.drewN q) from fun q => ⟨0, Nat.zero_le _, rfl, by rw [lefN_zero]; rfl, hP.drewN q, (rG.drewN q).congr fun j _ => (by unfold dMix; rw [Nat.zero_mul, if_neg (by omega)]), (rS.drewN q).congr fun j _ => (by unfold sMix; rw [if_neg (by omega)])⟩)
  have HPl : Hid ((pc a r t) = (pc a r t)) := rfl
  obtain ⟨p, hpp⟩ : ∃ p, pc a r t = p := ⟨_, rfl⟩
  have HPP := Lib.hid hpp
  rw [hpp] at HP hlp rp
  clear hpp HPl hp1 hp2 ra hsl hP rG rS hr hrt hn hm
  obtain ⟨np, hnp⟩ : ∃ np, p.length = np := ⟨_, rfl⟩
  have HNP := Lib.hid hnp
  rw [hnp] at HP hlp
  clear hnp
  go_enter Try.func18, Try.ntmps18
  go_wp2_with fail
  go_quiet ((go_at_call 23; exact HP.out _))
  have hI := HI.out nq
  clear HI HP c1 c3
  generalize w.drewN nq = wy at *
  go_wp2_with fail
  go_loopw [9, 27] (fun x i wr => PaRel A B n m c d t b sh lo hi G S oS N r a l sF w0 x i wr) (fun _ i _ => upN m t - (intOf i).toNat)
  case atStart => exact hI
  case round =>
    clear hI
    obtain ⟨k, hk, rfl, rfl, hP, rG, rS⟩ := hrel
    by_cases hlt : k < upN m t
    · have hC := hC (by omega)
      subst hC
      have hkm := upN_lt ht.1 hlt
      obtain ⟨X, hX⟩ : ∃ X, k * t = X := ⟨_, rfl⟩
      have HX := Lib.hid hX
      rw [hX] at hkm rG
      have e1 : (k : Int) * (t : Int) = (X : Int) := by rw [← hX]; simp
      have HT : Hid (∀ q, Calls Try.prog 24 #[.slice (some ⟨G, 0, none⟩) m m, .int .i64 (X : Int), .int .i64 (t : Int)] (wr.drewN q) fun e w'' => e = .returned (.int .i64 (topN t a l r k : Nat)) ∧ ∃ z, w'' = wr.drewN z) := fun q => by
        have h1 := pkey_any (some ⟨G, 0, none⟩) m m (byL (dMix t a l r X) m) (X : Int) (t : Int) (wr.drewN q) (byL_length _ _) hb' (Nat.le_refl _) (i64_small (by omega)) (i64_small (by omega)) ((rG.drewN q).row (dMix_le t a l r X))
        refine h1.mono fun e w'' h => ⟨?_, q, h.2.symm⟩
        rw [h.1]
        have h2 := key_top (t := t) (a := a) (b := l) (r := r) (c := k) (f := dMix t a l r X) ht (by rw [hX, HM.out]; exact hkm) (dMix_le t a l r X) (fun j hj => if_neg (by omega))
        rw [HM.out, hX] at h2
        rw [h2]
      clear hX
      have c3 := hP.2.1.c3
      have x1 := topN_lt t a l r k
      have x2 := lefN_lt t a l r k
      have hO := or_byte ht.2 x1 x2
      have h8 : 2 ^ t ≤ 8 := Nat.pow_le_pow_right (n := 2) (by decide) ht.2
      obtain ⟨np3, hB1⟩ : ∃ z, z = upN m t := ⟨_, rfl⟩
      have HE : Hid (inSq t (eqN t (pc a r t) (pc l k t) : Nat) (topN t a l r k : Nat) (lefN t a l r k : Nat)) := inSq_of (eqN_lt t _ _) x1 x2
      have HLk : Hid (lookV t (eqN t (pc a r t) (pc l k t) : Nat) (topN t a l r k : Nat) (lefN t a l r k : Nat) = .tuple #[.int .i64 (topN t a l (r + 1) k : Nat), .int .i64 (lefN t a l r (k + 1) : Nat), .int .i64 0]) := by
        show _ = _
        rw [lookV_yes HE.out, sq_bot, sq_rgt]
      clear HE hB1
      have HSv : Hid (sdN t a l r k = topN t a l r k * 2 ^ t + lefN t a l r k) := rfl
      have HBn : Hid (∀ j, j < t → bitN (topN t a l (r + 1) k) j = stp t a l (r + 1) (X + j)) := fun j hj => by
        unfold topN
        rw [num_bit (fun _ => stp_le t a l _ _) t j hj, HX.out]
      obtain ⟨Q, cQ, hq1, hq2⟩ := partI_any B m d k t l HM.out hb' hd ht (by rw [HX.out]; omega)
      have rq := hq1 b w0 rb
      have HQ := Lib.hid hq2
      clear hq1 hq2
      have HQL := pc_length l k t
      rw [HPP.out] at HLk
      obtain ⟨q, hqq⟩ : ∃ q, pc l k t = q := ⟨_, rfl⟩
      rw [hqq] at HLk rq HQL HQ
      clear hqq
      obtain ⟨nq', hnq⟩ : ∃ z, q.length = z := ⟨_, rfl⟩
      have HNQ := Lib.hid hnq
      rw [hnq] at HQ HQL
      have hlq : nq' ≤ t := by omega
      clear hnq HQL
      have hBt := topN_lt t a l (r + 1) k
      generalize topN t a l r k = T at *
      generalize topN t a l (r + 1) k = T' at *
      obtain ⟨L, hL⟩ : ∃ L, lefN t a l r k = L := ⟨_, rfl⟩
      rw [hL] at x2 hO HLk HSv ⊢
      clear hL
      obtain ⟨L', hL'⟩ : ∃ L, lefN t a l r (k + 1) = L := ⟨_, rfl⟩
      rw [hL'] at HLk
      have HL' := Lib.hid hL'
      clear hL'
      have hkN : oS + k < N := by omega
      go_wp2_with fail
      go_quiet ((go_at_call 24; exact HT.out _))
      replace hP := hP.drewN nq
      replace rG := rG.drewN nq
      replace rS := rS.drewN nq
      clear HT c3
      generalize wr.drewN nq = wa at *
      have c3 := hP.2.1.c3
      have s1 := rS.cell hkN
      have s2 := rS.frozen (oS + k)
      have HR := Lib.hid (fun v hv => rS.put (f' := sMix t a l r oS (k + 1) sF) (oS + k) (v := v) hv (fun j _ hj => sMix_ne t a l r oS k sF hj))
      have HV := Lib.hid (sMix_at t a l r oS k sF)
      generalize sMix t a l r oS k sF (oS + k) = sv at *
      go_wp2_with fail
      have rS := HR.out ((T : Int) * 2 ^ t + (L : Int)) (by rw [HV.out, HSv.out]; simp)
      replace rG := rG.other (g := S) (i := oS + k) n3 (.int .u8 ((T : Int) * 2 ^ t + (L : Int)))
      replace hP := hP.put (g := S) (i := oS + k) h0 hbl hS n2 (.int .u8 ((T : Int) * 2 ^ t + (L : Int)))
      clear HR HV HSv c3 s1 s2 hO e1
      generalize wa.setCell _ _ = wb at *
      have hD := hP.drew
      replace rG := rG.drew
      replace rS := rS.drew
      have rp1 := (rp.grown hD.1).1
      have rq1 := (rq.grown hD.1).1
      have hsz := hD.2.2.2
      have hGb : some G ≠ some b := by intro e; injection e with e; have := hG.1; omega
      have hSb : some S ≠ some b := by intro e; injection e with e; have := hS.1; omega
      clear hP
      refine wp_region_held (S := PaS B m d t b sh) hmx ?_
      refine wpAnyH_take (i := 0) (v := ?v1) rfl (by kernel_rfl) (by kernel_rfl) (by kernel_rfl) (fun _ _ _ h => h) (.inl ⟨by kernel_rfl, ?y1⟩) hD.2.1.paS ?_
      case y1 =>
        rintro w' ⟨s0, s2, s3⟩
        go_simp
        first | done | with_reducible rfl | rfl
      try simp only [Act.put]
      refine wpAnyH_take (i := 1) (v := ?v2) rfl (by kernel_rfl) (by kernel_rfl) (by kernel_rfl) (fun _ _ _ h => h) (.inl ⟨by kernel_rfl, ?y2⟩) hD.2.1.paS ?_
      case y2 =>
        rintro w' ⟨s0, s2, s3⟩
        go_simp
        first | done | with_reducible rfl | rfl
      try simp only [Act.put]
      refine wpAnyH_take (i := 2) (v := ?v3) rfl (by kernel_rfl) (by kernel_rfl) (by kernel_rfl) (fun _ _ _ h => h) (.inl ⟨by kernel_rfl, ?y3⟩) hD.2.1.paS ?_
      case y3 =>
        rintro w' ⟨s0, s2, s3⟩
        go_simp
        first | done | with_reducible rfl | rfl
      try simp only [Act.put]
      refine wpAnyH_take (i := 3) (v := ?v4) rfl (by kernel_rfl) (by kernel_rfl) (by kernel_rfl) (fun _ _ _ h => h) (.inl ⟨by kernel_rfl, ?y4⟩) hD.2.1.paS ?_
      case y4 =>
        rintro w' ⟨s0, s2, s3⟩
        go_simp
        first | done | with_reducible rfl | rfl
      try simp only [Act.put]
      refine wpAnyH_take (i := 4) (v := ?v5) rfl (by kernel_rfl) (by kernel_rfl) (by kernel_rfl) (fun _ _ _ h => h) (.inl ⟨by kernel_rfl, ?y5⟩) hD.2.1.paS ?_
      case y5 =>
        rintro w' ⟨s0, s2, s3⟩
        go_simp
        first | done | with_reducible rfl | rfl
      try simp only [Act.put]
      refine wpAnyH_take (i := 5) (v := ?v6) rfl (by kernel_rfl) (by kernel_rfl) (by kernel_rfl) (fun _ _ _ h => h) (.inl ⟨by kernel_rfl, ?y6⟩) hD.2.1.paS ?_
      case y6 =>
        rintro w' ⟨s0, s2, s3⟩
        go_simp
        first | done | with_reducible rfl | rfl
      try simp only [Act.put]
      refine wpAnyH_take (i := 6) (v := ?v7) rfl (by kernel_rfl) (by kernel_rfl) (by kernel_rfl) (fun _ _ _ h => h) (.inl ⟨by kernel_rfl, ?y7⟩) hD.2.1.paS ?_
      case y7 =>
        rintro w' ⟨s0, s2, s3⟩
        go_simp
        first | done | with_reducible rfl | rfl
      try simp only [Act.put]
      refine wpAnyH_take (i := 7) (v := ?v8) rfl (by kernel_rfl) (by kernel_rfl) (by kernel_rfl) (fun _ _ _ h => h) (.inl ⟨by kernel_rfl, ?y8⟩) hD.2.1.paS ?_
      case y8 =>
        rintro w' ⟨s0, s2, s3⟩
        go_simp
        first | done | with_reducible rfl | rfl
      try simp only [Act.put]
      refine wpAnyH_take (i := 8) (v := ?v9) rfl (by kernel_rfl) (by kernel_rfl) (by kernel_rfl) (fun _ _ _ h => h) (.inl ⟨by kernel_rfl, ?y9⟩) hD.2.1.paS ?_
      case y9 =>
        rintro w' ⟨s0, s2, s3⟩
        go_simp
        first | done | with_reducible rfl | rfl
      try simp only [Act.put]
      refine wpAnyH_take (i := 9) (v := ?v10) rfl (by kernel_rfl) (by kernel_rfl) (by kernel_rfl) (fun _ _ _ h => h) (.inl ⟨by kernel_rfl, ?y10⟩) hD.2.1.paS ?_
      case y10 =>
        rintro w' ⟨s0, s2, s3⟩
        go_simp
        first | done | with_reducible rfl | rfl
      try simp only [Act.put]
      refine wpAnyH_take (i := 10) (v := ?v11) rfl (by kernel_rfl) (by kernel_rfl) (by kernel_rfl) (fun _ _ _ h => h) (.inl ⟨by kernel_rfl, ?y11⟩) hD.2.1.paS ?_
      case y11 =>
        rintro w' ⟨s0, s2, s3⟩
        go_simp
        first | done | with_reducible rfl | rfl
      try simp only [Act.put]
      refine wpAnyH_take (i := 11) (v := ?v12) rfl (by kernel_rfl) (by kernel_rfl) (by kernel_rfl) (fun _ _ _ h => h) (.inl ⟨by kernel_rfl, ?y12⟩) hD.2.1.paS ?_
      case y12 =>
        rintro w' ⟨s0, s2, s3⟩
        go_simp
        first | done | with_reducible rfl | rfl
      try simp only [Act.put]
      refine wpAnyH_take (i := 12) (v := ?v13) rfl (by kernel_rfl) (by kernel_rfl) (by kernel_rfl) (fun _ _ _ h => h) (.inl ⟨by kernel_rfl, ?y13⟩) hD.2.1.paS ?_
      case y13 =>
        rintro w' ⟨s0, s2, s3⟩
        go_simp
        first | done | with_reducible rfl | rfl
      try simp only [Act.put]
      refine wpAnyH_take (i := 13) (v := ?v14) rfl (by kernel_rfl) (by kernel_rfl) (by kernel_rfl) (fun _ _ _ h => h) (.inl ⟨by kernel_rfl, ?y14⟩) hD.2.1.paS ?_
      case y14 =>
        rintro w' ⟨s0, s2, s3⟩
        go_simp
        first | done | with_reducible rfl | rfl
      try simp only [Act.put]
      refine wpAnyH_take (i := 14) (v := ?v15) rfl (by kernel_rfl) (by kernel_rfl) (by kernel_rfl) (fun _ _ _ h => h) (.inl ⟨by kernel_rfl, ?y15⟩) hD.2.1.paS ?_
      case y15 =>
        rintro w' ⟨s0, s2, s3⟩
        go_simp
        first | done | with_reducible rfl | rfl
      try simp only [Act.put]
      refine wpAnyH_take (i := 17) (v := ?v16) rfl (by kernel_rfl) (by kernel_rfl) (by kernel_rfl) (fun _ _ _ h => h) (.inl ⟨by kernel_rfl, ?y16⟩) hD.2.1.paS ?_
      case y16 =>
        rintro w' ⟨s0, s2, s3⟩
        go_simp
        first | done | with_reducible rfl | rfl
      try simp only [Act.put]
      refine wpAnyH_take (i := 18) (v := ?v17) rfl (by kernel_rfl) (by kernel_rfl) (by kernel_rfl) (fun _ _ _ h => h) (.inl ⟨by kernel_rfl, ?y17⟩) hD.2.1.paS ?_
      case y17 =>
        rintro w' ⟨s0, s2, s3⟩
        go_simp
        first | done | with_reducible rfl | rfl
      try simp only [Act.put]
      refine held_one (i := 15) (by kernel_rfl) rfl (by kernel_rfl) ?_
      unfold Oper.wp
      go_simp
      refine (HQ.out wb.drew).mono ?_
      rintro e w5 ⟨rfl, rfl⟩
      skip
      refine ⟨hD.2.1.paS, ?_⟩
      try simp only [Act.put]
      refine held_one (i := 16) (by kernel_rfl) rfl (by kernel_rfl) ?_
      unfold Oper.wp
      go_simp
      refine (equal_any sh t P Q np nq' cP cQ p q wb.drew ht hD.2.1.c3 HNP.out HNQ.out hlp hlq rp1 rq1).mono ?_
      rintro e w6 ⟨rfl, rfl⟩
      skip
      refine ⟨hD.2.1.paS, ?_⟩
      try simp only [Act.put]
      refine held_one (i := 19) (by kernel_rfl) rfl (by kernel_rfl) ?_
      unfold Oper.wp
      go_simp
      refine (look_any (Own14 lo hi) t b (eqN t p q : Nat) (T : Nat) (L : Nat) wb.drew ht hD.fits hD.2.2.1).mono ?_
      rintro e w7 ⟨he, hT7, hg7⟩
      rw [HLk.out] at he
      subst he
      have hP := hD.look hg7 hT7 hbl hsh
      replace rG := rG.grown hg7 hGb
      replace rS := rS.grown hg7 hSb
      clear hD hg7 hT7 HLk rp1 rq1 hsz
      refine ⟨hP.2.1.paS, ?_⟩
      try simp only [Act.put]
      refine wpAnyH_take (i := 20) (v := ?v18) rfl (by kernel_rfl) (by kernel_rfl) (by kernel_rfl) (fun _ _ _ h => h) (.inl ⟨by kernel_rfl, ?y18⟩) hP.2.1.paS ?_
      case y18 =>
        rintro w' ⟨s0, s2, s3⟩
        go_simp
        first | done | with_reducible rfl | rfl
      try simp only [Act.put]
      refine wpAnyH_take (i := 21) (v := ?v19) rfl (by kernel_rfl) (by kernel_rfl) (by kernel_rfl) (fun _ _ _ h => h) (.inl ⟨by kernel_rfl, ?y19⟩) hP.2.1.paS ?_
      case y19 =>
        rintro w' ⟨s0, s2, s3⟩
        go_simp
        first | done | with_reducible rfl | rfl
      try simp only [Act.put]
      refine wpAnyH_take (i := 22) (v := ?v20) rfl (by kernel_rfl) (by kernel_rfl) (by kernel_rfl) (fun _ _ _ h => h) (.inl ⟨by kernel_rfl, ?y20⟩) hP.2.1.paS ?_
      case y20 =>
        rintro w' ⟨s0, s2, s3⟩
        go_simp
        first | done | with_reducible rfl | rfl
      try simp only [Act.put]
      refine wpAnyH_take (i := 23) (v := ?v21) rfl (by kernel_rfl) (by kernel_rfl) (by kernel_rfl) (fun _ _ _ h => h) (.inl ⟨by kernel_rfl, ?y21⟩) hP.2.1.paS ?_
      case y21 =>
        rintro w' ⟨s0, s2, s3⟩
        go_simp
        first | done | with_reducible rfl | rfl
      try simp only [Act.put]
      refine wpAnyH_take (i := 24) (v := ?v22) rfl (by kernel_rfl) (by kernel_rfl) (by kernel_rfl) (fun _ _ _ h => h) (.inl ⟨by kernel_rfl, ?y22⟩) hP.2.1.paS ?_
      case y22 =>
        rintro w' ⟨s0, s2, s3⟩
        go_simp
        first | done | with_reducible rfl | rfl
      try simp only [Act.put]
      refine wpAnyH_take (i := 25) (v := ?v23) rfl (by kernel_rfl) (by kernel_rfl) (by kernel_rfl) (fun _ _ _ h => h) (.inl ⟨by kernel_rfl, ?y23⟩) hP.2.1.paS ?_
      case y23 =>
        rintro w' ⟨s0, s2, s3⟩
        go_simp
        first | done | with_reducible rfl | rfl
      try simp only [Act.put]
      refine held_done (by kernel_rfl) ?_
      go_simp
      have hB := partB_any G m m k t w7 hb' (Nat.le_refl _) ht (by rw [HX.out]; exact hkm)
      rw [HX.out] at hB
      have HB := Lib.hid hB
      have c3 := hP.2.1.c3
      have rG0 := rG.congr (f' := dMix t a l r (X + 0)) (fun _ _ => rfl)
      clear hB rG rp rq HQ HNQ
      obtain ⟨M, hM⟩ : ∃ M, min t (m - X) = M := ⟨_, rfl⟩
      rw [hM] at HB
      have hM3 : M ≤ 3 := by omega
      have hMt : M ≤ t := by omega
      have hXM : X + M ≤ m := by omega
      have HMm := Lib.hid hM
      clear hM
      go_wp2_with fail
      refine HB.out.mono ?_
      rintro e w8 ⟨⟨cB, rfl, hcB⟩, rfl⟩
      clear HB
      go_wp2_with fail
      go_loopw [87] (fun i wr => PbRel A B n m c d t b sh lo hi G S oS N r k X M a l sF w0 i wr) (fun i _ => M - (intOf i).toNat)
      case atStart => exact ⟨0, Nat.zero_le _, rfl, hP, rG0, rS⟩
      case round =>
        clear hP rG0 rS c3
        obtain ⟨j, hj, rfl, hP, rG, rS⟩ := hrel
        by_cases hjM : j < M
        · have HV := Lib.hid (HBn.out j (by omega))
          have e2 := and_bitN T' j
          have b2 := bitN_le T' j
          have x1 := rG.cell (i := X + j) (by omega)
          have x2 := rG.frozen (X + j)
          have R : Hid (∀ v : Int, v = (bitN T' j : Nat) → PbRel A B n m c d t b sh lo hi G S oS N r k X M a l sF w0 (.int .i64 ((j + 1 : Nat) : Int)) (wr.setCell ⟨G, X + j, none⟩ (.int .u8 v))) := fun v hv =>
            ⟨j + 1, hjM, rfl, hP.put h0 hbl hG n1 _, rG.put (f' := dMix t a l r (X + (j + 1))) (X + j) (by rw [hv, HV.out, ← Nat.add_assoc, dMix_at]) (fun i _ hi => dMix_ne t a l r (X + j) hi), rS.other (Ne.symm n3) _⟩
          clear hP rG rS HV
          generalize bitN T' j = bj at *
          go_wp2_with fail
          go_roundw
          case rel => exact R.out _ (by first | rfl | (simp [IntKind.wrap_u8']; omega) | omega)
          case measure => simp [intOf]; omega
        · obtain rfl : j = M := by omega
          have R : Hid (PaRel A B n m c d t b sh lo hi G S oS N r a l sF w0 (.int .i64 (L' : Int)) (.int .i64 ((k + 1 : Nat) : Int)) wr) := by
            refine ⟨k + 1, hlt, rfl, by rw [HL'.out], hP, rG.congr fun i hi => ?_, rS⟩
            have e : (k + 1) * t = X + t := by rw [Nat.add_mul, Nat.one_mul, HX.out]
            have e3 := HMm.out
            unfold dMix
            rw [e]
            by_cases h : i < X + j
            · rw [if_pos h, if_pos (by omega)]
            · rw [if_neg h, if_neg (by omega)]
          clear hP rG rS
          go_wp2_with fail
          go_roundw
          case rel => exact R.out
          case measure => simp [intOf]; omega
    · obtain rfl : k = upN m t := by omega
      have HQ : Hid (PaMade A B n m c d t b sh lo hi G S oS N r a l sF w0 (.returned (.tuple #[])) wr) := ⟨rfl, hP, rG.congr fun i hi => (by
        have := upN_ge (n := m) ht.1
        unfold dMix
        rw [if_pos (by omega)]), rS⟩
      clear hP rG rS
      go_wp2_with fail
      go_end0
      exact HQ.out

end Go.Proofs.Ytdedmmeefffpkaa

namespace Go.Proofs.Ytdedmmeefffpkaa
open Go.RowKit

theorem TilX.lt {X : Nat → Prop} {t b : Nat} {w : World} (h : TilX X t b w) : b < w.heap.size := by
  rcases h with ⟨v0, h⟩ | ⟨g, h, _⟩
  · exact h.lt
  · exact h.lt
theorem ps_start {A B : Option Addr} {n m c d t b sh hi : Nat} {w w3 : World} (hT : Til t b w) (hB : Below w.heap.size w w3) (hS : Sht A B n m c d t b sh w3) (hi' : hi ≤ w3.heap.size) : Ps A B n m c d t b sh w.heap.size hi w w3 := by
  refine ⟨below_grown hB _, hS, ?_, hi'⟩
  rcases hT with ⟨v0, h⟩ | ⟨g, h1, h2, h3, _⟩
  · exact .inl ⟨v0, h.below hB⟩
  · refine .inr ⟨g, h1.below hB, rowIs_grown h2 (below_grown hB none) (by simp), h3, fun h => ?_⟩
    have := World.rowIs.lt h2
    have := h.1
    omega
theorem Ps.til {A B : Option Addr} {n m c d t b sh lo hi : Nat} {w0 w : World} (h : Ps A B n m c d t b sh lo hi w0 w) : Til t b w := by
  rcases h.2.2.1 with h | ⟨g, h1, h2, h3, _⟩
  · exact .inl h
  · exact .inr ⟨g, h1, h2, h3, fun h => h⟩
theorem Ps.below {A B : Option Addr} {n m c d t b sh lo hi : Nat} {w0 w w' : World} (h : Ps A B n m c d t b sh lo hi w0 w) (hb : Below w.heap.size w w') : Ps A B n m c d t b sh lo hi w0 w' :=
  ⟨grown_more h.1 (below_grown hb none) (fun r e => by cases e), h.2.1.below hb, h.2.2.1.below hb, Nat.le_trans h.2.2.2 hb.size⟩
/-- What Len leaves. -/
def LnMade (t b : Nat) (a l : List Int) (w : World) (e : Ending) (w' : World) : Prop := e = .returned (.tuple #[.int .i64 (lcs a l : Nat), .int .i64 0]) ∧ Til t b w' ∧ w.grownBy w' (some b)
/-- The head of a round of Len. -/
def LnRel (A B : Option Addr) (n m c d t b lo : Nat) (a l : List Int) (w0 : World) (i : Value) (wr : World) : Prop :=
  ∃ r : Nat, r ≤ upN n t ∧ i = .int .i64 (r : Int) ∧ Ps A B n m c d t b lo lo (lo + 3) w0 wr ∧ BR wr (lo + 1) m (stp t a l r) ∧ ∃ sF, BR wr (lo + 2) (upN m t) sF

set_option maxRecDepth 100000 in
set_option maxHeartbeats 1600000 in
theorem plenR_any (A B : Option Addr) (n m c d t b : Nat) (a l : List Int) (w : World) (ht : 1 ≤ t ∧ t ≤ 3) (hn : a.length = n) (hm : l.length = m) (hb : n ≤ 1048576) (hb' : m ≤ 1048576) (hc : n ≤ c) (hd : m ≤ d)
    (ra : RowN b w A (iv a)) (rb : RowN b w B (iv l)) (hT : Til t b w) :
    Calls Try.prog 9 #[.pointer (some ⟨b, 0, none⟩), .slice A n c, .slice B m d] w (LnMade t b a l w) := by
  obtain ⟨i0, hi, hz0, hz1, hz2⟩ := info_parts Try.infoU8
  have hbl := hT.lt
  have hac := upN_small (n := m) ht.1
  have han := upN_small (n := n) ht.1
  have HD := Lib.hid (divide_any A B n m c d t b w hb hb' ht hT.c0)
  have HN := Lib.hid hn
  have HM := Lib.hid hm
  clear hn hm
  go_enter Try.func9, Try.ntmps9
  go_wp2_with fail
  refine HD.out.mono ?_
  rintro e w1 ⟨rfl, hS, hB, hz⟩
  clear HD
  go_upto_region 5 with (at_make; refine wpList_make_row _ rfl _ _ 43 rfl 5 i0 (.int .u8 0) Try.underlying43 hi hz0 hz1 rfl .i64 .i64 m rfl rfl (by rw [hz2]; omega) (by omega) ?_)
  have g1 := World.rowIs_made w1 (.int .u8 0) m 5
  rw [hz] at g1
  replace hB := hB.alloc (by omega) (.cells (madeCells #[.int .u8 0] m) 5)
  replace hS := hS.below (below_a1 w1 (.cells (madeCells #[.int .u8 0] m) 5))
  have hz2' : (w1.alloc (.cells (madeCells #[.int .u8 0] m) 5)).heap.size = w.heap.size + 2 := by simp [hz]
  generalize w1.alloc (.cells (madeCells #[.int .u8 0] m) 5) = w2 at *
  have c5 := hS.c5
  go_upto_region 6 with (at_make; refine wpList_make_row _ rfl _ _ 43 rfl 5 i0 (.int .u8 0) Try.underlying43 hi hz0 hz1 rfl .i64 .i64 (upN m t) rfl rfl (by rw [hz2]; omega) (by omega) ?_)
  clear c5
  have g2 := World.rowIs_made w2 (.int .u8 0) (upN m t) 5
  rw [hz2'] at g2
  replace g1 := World.rowIs.alloc g1 (.cells (madeCells #[.int .u8 0] (upN m t)) 5)
  replace hB := hB.alloc (by omega) (.cells (madeCells #[.int .u8 0] (upN m t)) 5)
  replace hS := hS.below (below_a1 w2 (.cells (madeCells #[.int .u8 0] (upN m t)) 5))
  have hz3 : (w2.alloc (.cells (madeCells #[.int .u8 0] (upN m t)) 5)).heap.size = w.heap.size + 3 := by simp [hz2']
  generalize w2.alloc (.cells (madeCells #[.int .u8 0] (upN m t)) 5) = w3 at *
  have hP := ps_start (hi := w.heap.size + 3) hT hB hS (by omega)
  have c4 := hS.c4
  have HI : Hid (LnRel A B n m c d t b w.heap.size a l w (.int .i64 0) w3) := ⟨0, Nat.zero_le _, rfl, hP, World.rowIs.congr g1 (fun j _ => by rw [stp_zero]; rfl), fun _ => 0, World.rowIs.congr g2 (fun _ _ => rfl)⟩
  clear hP hS hB g1 g2 hz hz2' hz3 hT
  go_wp2_with fail
  go_loopw [30] (fun i wr => LnRel A B n m c d t b w.heap.size a l w i wr) (fun i _ => upN n t - (intOf i).toNat)
  case atStart => exact HI.out
  case round =>
    clear HI c4
    obtain ⟨r, hr, rfl, hP, rG, sF, rS⟩ := hrel
    by_cases hlt : r < upN n t
    · have HC := Lib.hid (pass_any A B n m c d t b w.heap.size w.heap.size (w.heap.size + 3) (w.heap.size + 1) (w.heap.size + 2) 0 (upN m t) r (upN m t) a l (some ⟨w.heap.size + 2, 0, none⟩) sF w wr ht rfl hbl ⟨by omega, by omega⟩ ⟨by omega, by omega⟩ ⟨by omega, by omega⟩ (by omega) (by omega) (by omega) HN.out HM.out hb hb' hc hd ra rb hlt (fun _ => rfl) (by omega) hP rG rS)
      clear hP rG rS
      go_wp2_with fail
      refine HC.out.mono ?_
      rintro e w5 ⟨rfl, hP, rG, rS⟩
      clear HC
      have R : Hid (LnRel A B n m c d t b w.heap.size a l w (.int .i64 ((r + 1 : Nat) : Int)) w5) := ⟨r + 1, hlt, rfl, hP, rG, _, rS⟩
      clear hP rG rS
      go_wp2_with fail
      go_roundw
      case rel => exact R.out
      case measure => simp [intOf]; omega
    · obtain rfl : r = upN n t := by omega
      have HR := Lib.hid (prow_any 0 (some ⟨w.heap.size + 1, 0, none⟩) m m (byL (stp t a l (upN n t)) m) wr (byL_length _ _) hb' (rG.row (stp_le t a l _)))
      have HV : Hid (rowD 0 (byL (stp t a l (upN n t)) m) m = (lcs a l : Nat)) := by
        show _ = _
        rw [row_steps (stp_le t a l _) hb' m (Nat.le_refl _), stp_sum, px_beyond a l (by rw [HN.out]; exact upN_ge ht.1) (by rw [HM.out]; exact Nat.le_refl _)]
      have HQ : Hid (∀ w', Below wr.heap.size wr w' → LnMade t b a l w (.returned (.tuple #[.int .i64 (lcs a l : Nat), .int .i64 0])) w') := fun w' h => ⟨rfl, (hP.below h).til, (hP.below h).1⟩
      clear hP rG rS
      go_wp2_with fail
      refine HR.out.mono ?_
      rintro e w6 ⟨v, rfl, hv, hb6⟩
      rw [rowDL_length, byL_length] at hv
      obtain ⟨V, cV, rfl, _, _, rV, _⟩ := own_slice hv
      obtain ⟨g, o, rfl, hcell⟩ := rV.int (k := m) (by rw [rowDL_length, byL_length]; omega)
      have e1 := nth_rowDL (first := 0) (d := byL (stp t a l (upN n t)) m) (c := m) (by rw [byL_length]; exact Nat.le_refl _)
      rw [HV.out] at e1
      have e2 : (rowDL 0 (byL (stp t a l (upN n t)) m))[m]'(by rw [rowDL_length, byL_length]; omega) = (lcs a l : Nat) := by
        rw [← e1]
        exact (nth_of (List.getElem?_eq_getElem _)).symm
      rw [e2] at hcell
      have HF := Lib.hid (HQ.out w6 hb6)
      clear e1 e2 hv rV HR HQ HV hb6
      generalize lcs a l = Lc at *
      go_wp2_with fail
      go_ret2
      exact HF.out

end Go.Proofs.Ytdedmmeefffpkaa

namespace Go.Proofs.Ytdedmmeefffpkaa
open Go.RowKit

theorem byL_zero (t : Nat) : byL (fun _ => 0) t = List.replicate t 0 := by
  unfold byL
  refine List.eq_replicate_iff.2 ⟨by simp, fun x hx => ?_⟩
  obtain ⟨_, _, rfl⟩ := List.mem_map.1 hx
  rfl
/-- What decode reads. -/
def DcS (sh t : Nat) (w : World) : Prop := w.cell? ⟨sh, 3, none⟩ = some (.int .i64 (t : Int))

set_option maxRecDepth 100000 in
set_option maxHeartbeats 1600000 in
theorem decode_any (sh t key : Nat) (w : World) (ht : 1 ≤ t ∧ t ≤ 3) (h3 : w.cell? ⟨sh, 3, none⟩ = some (.int .i64 (t : Int))) :
    Calls Try.prog 35 #[.pointer (some ⟨sh, 0, none⟩), .int .i64 (key : Int)] w (MadeI (decL key t) w) := by
  have hmx : Try.prog.follows .mixedOrders = true := by kernel_rfl
  obtain ⟨i0, hi, hz0, hz1, hz2⟩ := info_parts Try.infoU8
  have hmk : ∀ w, (Instr.makeSlice 43 (.int .i64 (t : Int)) (.int .i64 (t : Int))).run Try.prog w = .ok (.slice (some ⟨w.heap.size, 0, none⟩) t t) (w.alloc (.cells (madeCells #[.int .u8 0] t) 5)) := fun w =>
    run_make_row (P := Try.prog) 43 5 i0 (.int .u8 0) Try.underlying43 hi hz0 hz1 rfl .i64 .i64 t (by rw [hz2]; omega) (by omega) w
  have HS : Hid (DcS sh t w.drew) := h3
  have HW : Hid (∀ o, DcS sh t (w.drew.alloc o)) := fun o => ((below_a1 w.drew o).cell (p := ⟨sh, 3, none⟩) (World.block_lt_of_cell? _ _ h3)).trans h3
  have hrow : Row (w.drew.alloc (.cells (madeCells #[.int .u8 0] t) 5)) (some ⟨w.heap.size, 0, none⟩) (bv (List.replicate t 0)) := by
    have h1 : BR (w.drew.alloc (.cells (madeCells #[.int .u8 0] t) 5)) w.heap.size t (fun _ => 0) := World.rowIs.congr (World.rowIs_made w.drew (.int .u8 0) t 5) (fun _ _ => rfl)
    have h2 := h1.row (fun _ => Nat.zero_le _)
    rwa [byL_zero] at h2
  have hB := below_a1 w.drew (.cells (madeCells #[.int .u8 0] t) 5)
  have HP := Lib.hid (pput_any (some ⟨w.heap.size, 0, none⟩) t t (List.replicate t 0) 0 (t : Int) (key : Int) (w.drew.alloc (.cells (madeCells #[.int .u8 0] t) 5)) (by simp) (by omega) (i64_small (by simp)) (i64_small (by omega)) hrow)
  rw [put_key ht] at HP
  have HB : Hid (Below w.heap.size w (w.drew.alloc (.cells (madeCells #[.int .u8 0] t) 5))) := (Below.refl _ w).drew.alloc (Nat.le_refl _) _
  have HD := Lib.hid (dec_row (key := key) ht.2)
  have HWo := Lib.hid (HW.out (.cells (madeCells #[.int .u8 0] t) 5))
  clear h3 hrow hB HW hi hz0 hz1 hz2
  go_enter Try.func35, Try.ntmps35
  go_wp2_with fail
  refine wp_region_held (S := DcS sh t) hmx ?_
  refine wpAnyH_take (i := 0) (v := ?v24) rfl (by kernel_rfl) (by kernel_rfl) (by kernel_rfl) (fun _ _ _ h => h) (.inl ⟨by kernel_rfl, ?y24⟩) HS.out ?_
  case y24 =>
    rintro w' s0
    unfold DcS at s0
    go_simp
    first | done | with_reducible rfl | rfl
  try simp only [Act.put]
  refine wpAnyH_take (i := 1) (v := ?v25) rfl (by kernel_rfl) (by kernel_rfl) (by kernel_rfl) (fun _ _ _ h => h) (.inl ⟨by kernel_rfl, ?y25⟩) HS.out ?_
  case y25 =>
    rintro w' s0
    unfold DcS at s0
    go_simp
    first | done | with_reducible rfl | rfl
  try simp only [Act.put]
  refine wpAnyH_take (i := 2) (v := ?v26) rfl (by kernel_rfl) (by kernel_rfl) (by kernel_rfl) (fun _ _ _ h => h) (.inl ⟨by kernel_rfl, ?y26⟩) HS.out ?_
  case y26 =>
    rintro w' s0
    unfold DcS at s0
    go_simp
    first | done | with_reducible rfl | rfl
  try simp only [Act.put]
  refine wpAnyH_take (i := 3) (v := ?v27) rfl (by kernel_rfl) (by kernel_rfl) (by kernel_rfl) (fun _ _ _ h => h) (.inl ⟨by kernel_rfl, ?y27⟩) HS.out ?_
  case y27 =>
    rintro w' s0
    unfold DcS at s0
    go_simp
    first | done | with_reducible rfl | rfl
  try simp only [Act.put]
  refine wpAnyH_take (i := 5) (v := ?v28) rfl (by kernel_rfl) (by kernel_rfl) (by kernel_rfl) (fun _ _ _ h => h) (.inl ⟨by kernel_rfl, ?y28⟩) HS.out ?_
  case y28 =>
    rintro w' s0
    unfold DcS at s0
    go_simp
    first | done | with_reducible rfl | rfl
  try simp only [Act.put]
  refine wpAnyH_take (i := 6) (v := ?v29) rfl (by kernel_rfl) (by kernel_rfl) (by kernel_rfl) (fun _ _ _ h => h) (.inl ⟨by kernel_rfl, ?y29⟩) HS.out ?_
  case y29 =>
    rintro w' s0
    unfold DcS at s0
    go_simp
    first | done | with_reducible rfl | rfl
  try simp only [Act.put]
  refine wpAnyH_take (i := 7) (v := ?v30) rfl (by kernel_rfl) (by kernel_rfl) (by kernel_rfl) (fun _ _ _ h => h) (.inl ⟨by kernel_rfl, ?y30⟩) HS.out ?_
  case y30 =>
    rintro w' s0
    unfold DcS at s0
    go_simp
    first | done | with_reducible rfl | rfl
  try simp only [Act.put]
  refine wpAnyH_take (i := 8) (v := ?v31) rfl (by kernel_rfl) (by kernel_rfl) (by kernel_rfl) (fun _ _ _ h => h) (.inl ⟨by kernel_rfl, ?y31⟩) HS.out ?_
  case y31 =>
    rintro w' s0
    unfold DcS at s0
    go_simp
    first | done | with_reducible rfl | rfl
  try simp only [Act.put]
  refine wpAnyH_take (i := 9) (v := ?v32) rfl (by kernel_rfl) (by kernel_rfl) (by kernel_rfl) (fun _ _ _ h => h) (.inl ⟨by kernel_rfl, ?y32⟩) HS.out ?_
  case y32 =>
    rintro w' s0
    unfold DcS at s0
    go_simp
    first | done | with_reducible rfl | rfl
  try simp only [Act.put]
  refine held_one (i := 4) (by kernel_rfl) rfl (by kernel_rfl) ?_
  unfold Oper.wp
  go_simp
  refine ⟨HWo.out, ?_⟩
  try simp only [Act.put]
  refine held_one (i := 10) (by kernel_rfl) rfl (by kernel_rfl) ?_
  unfold Oper.wp
  go_simp
  refine (HP.out).mono ?_
  rintro e w5 ⟨v, rfl, hv, hb5⟩
  unfold OwnB at hv
  rw [byL_length] at hv
  obtain ⟨V5, c5, rfl, _, _, r5, _⟩ := own_slice hv
  clear hv
  have HS5 : Hid (DcS sh t w5) := (hb5.cell (p := ⟨sh, 3, none⟩) (World.block_lt_of_cell? _ _ HWo.out)).trans HWo.out
  have HB5 := Lib.hid (below_go HB.out hb5)
  clear HP hb5 HB
  refine ⟨HS5.out, ?_⟩
  try simp only [Act.put]
  refine held_one (i := 11) (by kernel_rfl) rfl (by kernel_rfl) ?_
  unfold Oper.wp
  go_simp
  refine (prow_any 0 V5 t c5 (byL (bitN key) t) w5 (byL_length _ _) (by omega) r5).mono ?_
  rintro e w6 ⟨v, rfl, hv, hb6⟩
  rw [HD.out] at hv
  have HS6 : Hid (DcS sh t w6) := (hb6.cell (p := ⟨sh, 3, none⟩) (World.block_lt_of_cell? _ _ HS5.out)).trans HS5.out
  have HF : Hid (MadeI (decL key t) w (.returned v) w6) := ⟨v, rfl, own_lower hv HB5.out.size, below_go HB5.out hb6⟩
  clear hv hb6 HB5 HS5 r5
  refine ⟨HS6.out, ?_⟩
  try simp only [Act.put]
  refine wpAnyH_take (i := 12) (v := ?v33) rfl (by kernel_rfl) (by kernel_rfl) (by kernel_rfl) (fun _ _ _ h => h) (.inl ⟨by kernel_rfl, ?y33⟩) HS6.out ?_
  case y33 =>
    rintro w' s0
    unfold DcS at s0
    go_simp
    first | done | with_reducible rfl | rfl
  try simp only [Act.put]
  refine held_done (by kernel_rfl) ?_
  go_simp
  go_wp2_with fail
  go_ret
  exact HF.out

end Go.Proofs.Ytdedmmeefffpkaa

namespace Go.Proofs.Ytdedmmeefffpkaa
open Go.RowKit

/-- Sixteen numbers in memory. -/
def IB (w : World) (P : Nat) (g : Nat → Int) : Prop := w.rowIs P 75 16 (fun i => .int .i64 (g i))
/-- Of a table the told places are as they should be; the variable of the result lies ahead of it. -/
def InR (S : Nat → Nat → Nat) (t : Nat) (K : Nat → Nat → Prop) (w wr : World) : Prop :=
  (∃ g, IB wr (w.heap.size + 1) g ∧ ∀ r c, r ≤ t → c ≤ t → K r c → g (4 * r + c) = (S r c : Int)) ∧ IB wr w.heap.size (fun _ => 0) ∧ Below w.heap.size w wr
theorem InR.weak {S : Nat → Nat → Nat} {t : Nat} {K K' : Nat → Nat → Prop} {w wr : World} (h : InR S t K w wr) (hk : ∀ r c, r ≤ t → c ≤ t → K' r c → K r c) : InR S t K' w wr := by
  obtain ⟨⟨g, h1, h2⟩, h3, h4⟩ := h
  exact ⟨⟨g, h1, fun r c a b k => h2 r c a b (hk r c a b k)⟩, h3, h4⟩
theorem InR.drew {S : Nat → Nat → Nat} {t : Nat} {K : Nat → Nat → Prop} {w wr : World} (h : InR S t K w wr) : InR S t K w wr.drew := by
  obtain ⟨⟨g, h1, h2⟩, h3, h4⟩ := h
  exact ⟨⟨g, h1, h2⟩, h3, h4.drew⟩
theorem InR.cell {S : Nat → Nat → Nat} {t : Nat} {K : Nat → Nat → Prop} {w wr : World} (h : InR S t K w wr) (ht : t ≤ 3) {r c : Nat} (hr : r ≤ t) (hc : c ≤ t) (hk : K r c) : wr.cell? ⟨w.heap.size + 1, 4 * r + c, none⟩ = some (.int .i64 (S r c : Int)) := by
  obtain ⟨⟨g, h1, h2⟩, h3, h4⟩ := h
  rw [World.rowIs.cell h1 (by omega), h2 r c hr hc hk]
theorem InR.any {S : Nat → Nat → Nat} {t : Nat} {K : Nat → Nat → Prop} {w wr : World} (h : InR S t K w wr) {i : Nat} (hi : i < 16) : ∃ v, wr.cell? ⟨w.heap.size + 1, i, none⟩ = some v := by
  obtain ⟨⟨g, h1, h2⟩, h3, h4⟩ := h
  exact ⟨_, World.rowIs.cell h1 hi⟩
theorem InR.frozen {S : Nat → Nat → Nat} {t : Nat} {K : Nat → Nat → Prop} {w wr : World} (h : InR S t K w wr) (i : Nat) : wr.frozen? ⟨w.heap.size + 1, i, none⟩ = false := by
  obtain ⟨⟨g, h1, h2⟩, h3, h4⟩ := h
  exact World.rowIs.frozen h1 i
theorem InR.put {S : Nat → Nat → Nat} {t : Nat} {K K' : Nat → Nat → Prop} {w wr : World} (h : InR S t K w wr) (ht : t ≤ 3) {r c i : Nat} {v : Int} (hr : r ≤ t) (hc : c ≤ t) (hi : i = 4 * r + c) (hv : v = (S r c : Int)) (hk : ∀ r' c', r' ≤ t → c' ≤ t → K' r' c' → K r' c' ∨ (r' = r ∧ c' = c)) : InR S t K' w (wr.setCell ⟨w.heap.size + 1, i, none⟩ (.int .i64 v)) := by
  subst hi
  subst hv
  obtain ⟨⟨g, h1, h2⟩, h3, h4⟩ := h
  refine ⟨⟨fun j => if j = 4 * r + c then (S r c : Int) else g j, World.rowIs.congr (World.rowIs.set h1 (4 * r + c) _) fun j _ => ?_, fun r' c' hr' hc' hk' => ?_⟩, World.rowIs.setOther h3 (by show w.heap.size ≠ w.heap.size + 1; omega) _, h4.setCell (by show _ ≤ w.heap.size + 1; omega) _⟩
  · by_cases e : j = 4 * r + c
    · simp [e]
    · simp [e]
  · rcases hk r' c' hr' hc' hk' with hk'' | ⟨rfl, rfl⟩
    · by_cases e : 4 * r' + c' = 4 * r + c
      · have e1 : r' = r := by omega
        have e2 : c' = c := by omega
        simp [e1, e2]
      · simp only [if_neg e]
        exact h2 r' c' hr' hc' hk''
    · simp

theorem InR.below {S : Nat → Nat → Nat} {t : Nat} {K : Nat → Nat → Prop} {w wr wr' : World} (h : InR S t K w wr) (hb : Below wr.heap.size wr wr') : InR S t K w wr' := by
  obtain ⟨⟨g, h1, h2⟩, h3, h4⟩ := h
  exact ⟨⟨g, rowIs_grown h1 (below_grown hb none) (by simp), h2⟩, rowIs_grown h3 (below_grown hb none) (by simp), below_go h4 hb⟩
theorem InR.drewN {S : Nat → Nat → Nat} {t : Nat} {K : Nat → Nat → Prop} {w wr : World} (h : InR S t K w wr) (q : Nat) : InR S t K w (wr.drewN q) := h.below (below_drewN (Below.refl _ _) q)
def InA (k j : Nat) (r c : Nat) : Prop := r = 0 ∧ c < k ∨ c = 0 ∧ r < j
def InB (Q R C : Nat) (r c : Nat) : Prop := r = 0 ∨ c = 0 ∨ c ≤ Q ∧ (r ≤ R ∨ r = R + 1 ∧ c ≤ C)
theorem inr_start (S : Nat → Nat → Nat) (t : Nat) (w : World) (z : Array Value) (hz : z = Array.replicate 16 (.int .i64 0)) : InR S t (InA 0 0) w ((w.alloc (.cells z 75)).alloc (.cells z 75)) := by
  subst hz
  have hc : ∀ i, i < (Array.replicate 16 (Value.int .i64 0)).size → (Array.replicate 16 (Value.int .i64 0))[i]? = some (Value.int .i64 ((fun _ => 0 : Nat → Int) i)) := fun i hi => by
    rw [Array.getElem?_eq_getElem hi]
    simp
  have h1 := World.rowIs_alloc w (Array.replicate 16 (.int .i64 0)) 75 _ hc
  have h2 := World.rowIs_alloc (w.alloc (.cells (Array.replicate 16 (.int .i64 0)) 75)) (Array.replicate 16 (.int .i64 0)) 75 _ hc
  refine ⟨⟨fun _ => 0, ?_, fun r c _ _ hk => ?_⟩, World.rowIs.alloc h1 _, ((Below.refl _ _).alloc (Nat.le_refl _) _).alloc (by simp) _⟩
  · unfold IB
    simpa using h2
  · unfold InA at hk
    omega
/-- What fill leaves. -/
def InMade (S : Nat → Nat → Nat) (P Q : Nat) (w : World) (e : Ending) (w' : World) : Prop :=
  ∃ cs : Array Value, e = .returned (.agg cs) ∧ cs.size = 16 ∧ cs.all (·.oneCell') = true ∧ (∀ r c, r ≤ P → c ≤ Q → cs[4 * r + c]? = some (.int .i64 (S r c : Int))) ∧ Below w.heap.size w w'

theorem Try.sizeInn : (Try.prog.info? 75).map (·.size) = some 16 := by kernel_rfl
theorem in_end {S : Nat → Nat → Nat} {t P Q : Nat} {w wr : World} (h : InR S t (InB Q P 0) w wr) (ht : t ≤ 3) (hP : P ≤ t) (hQ : Q ≤ t) : ∃ cs old : Array Value, wr.heap[w.heap.size + 1]? = some (.cells cs 75 (0, 0)) ∧ wr.heap[w.heap.size]? = some (.cells old 75 (0, 0)) ∧ cs.size = 16 ∧ old.size = 16 ∧ cs.all (·.oneCell') = true ∧ (∀ r c, r ≤ P → c ≤ Q → cs[4 * r + c]? = some (.int .i64 (S r c : Int))) ∧ Below w.heap.size w wr := by
  obtain ⟨⟨g, ⟨cs, a1, a2, a3⟩, h2⟩, ⟨old, b1, b2, _⟩, h4⟩ := h
  refine ⟨cs, old, a1, b1, a2, b2, ?_, fun r c hr hc => ?_, h4⟩
  · rw [Array.all_eq_true]
    intro i hi
    have := a3 i (by omega)
    rw [Array.getElem?_eq_getElem hi] at this
    injection this with this
    rw [this]
    rfl
  · rw [a3 _ (by omega)]
    show some (Value.int .i64 (g (4 * r + c))) = _
    rw [h2 r c (by omega) (by omega) (by unfold InB; omega)]
theorem fillR_end {fn : Func} {R : Ending → World → Prop} {a : Act} {W : World} {P : Nat} {cs : Array Value} (h : fn.results = #[.cell 8 75]) (hp : a.tmps.getD 8 undef = .pointer (some ⟨P, 0, none⟩)) (hd : a.defers = []) (hg : W.heap[P]? = some (.cells cs 75 (0, 0))) (hc : cs.size = 16) (hR : R (.returned (.agg cs)) W) : bodyPost Try.prog fn R .ret a W :=
  bodyPost_ret (results_cell_row h _ _ P _ cs _ _ hp hg Try.underlying75 rfl (by rw [hc]; exact Try.sizeInn)) hd hR

/-- The square's own table, within the whole one. -/
def inS (t : Nat) (a l : List Int) (r k : Nat) : Nat → Nat → Nat := sqN t (eqN t (pc a r t) (pc l k t)) (topN t a l r k) (lefN t a l r k)
theorem inS_at (t : Nat) (a l : List Int) (r k : Nat) {i j : Nat} (hi : i ≤ t) (hj : j ≤ t) : px a l (r * t) (k * t) + inS t a l r k i j = px a l (r * t + i) (k * t + j) := stands_at (sq_stands t a l r k) i j hi hj
theorem inS_top (t : Nat) (a l : List Int) (r k j : Nat) : inS t a l r k 0 j = sumN (bitN (topN t a l r k)) j := sqN_top _ _ _ _ _
theorem inS_lef (t : Nat) (a l : List Int) (r k i : Nat) : inS t a l r k i 0 = sumN (bitN (lefN t a l r k)) i := sqN_left _ _ _ _ _
theorem inS_in {t : Nat} {a l : List Int} {r k i j : Nat} (hi : i < t) (hj : j < t) : inS t a l r k (i + 1) (j + 1) = if alikeAt (pc a r t) (pc l k t) i j = true then inS t a l r k i j + 1 else max (inS t a l r k i (j + 1)) (inS t a l r k (i + 1) j) := by
  unfold inS
  rw [sq_in]
  have e : bitN (eqN t (pc a r t) (pc l k t)) (i * t + j) = if alikeAt (pc a r t) (pc l k t) i j = true then 1 else 0 := by
    unfold eqN
    rw [num_bit (eqF_le t _ _) _ _ (by have := Nat.mul_le_mul_right t (show i + 1 ≤ t from hi); rw [Nat.add_mul, Nat.one_mul] at this; omega), eqF_at hj]
  rw [e]
  split <;> simp

theorem Row.intAt {w : World} {A : Option Addr} {l : List Int} (h : Row w A (iv l)) {k : Nat} {x : Int} (hx : l[k]? = some x) : ∃ g o, A = some ⟨g, o, none⟩ ∧ w.cell? ⟨g, o + k, none⟩ = some (.int .i64 x) := by
  have hl : iv l ≠ [] := by intro e; rw [show l = [] by simpa [iv] using e] at hx; simp at hx
  obtain ⟨g, o, rfl, hc⟩ := h hl
  exact ⟨g, o, rfl, hc k _ (by unfold iv; rw [List.getElem?_map, hx]; rfl)⟩
def InA1 (k : Nat) (r c : Nat) : Prop := r = 0 ∧ c ≤ k ∨ c = 0 ∧ r < k
/-- A round of the first loop. -/
theorem in_two {S : Nat → Nat → Nat} {t k : Nat} {w w4 wr : World} (hF : InR S t (InA k k) w wr) (hG : w4.grownBy wr (some (w.heap.size + 1))) (ht : t ≤ 3) (hk : k ≤ t) :
    (∃ v, (wr.setCell ⟨w.heap.size + 1, k, none⟩ (.int .i64 (S 0 k : Int))).cell? ⟨w.heap.size + 1, k * 4, none⟩ = some v) ∧ (wr.setCell ⟨w.heap.size + 1, k, none⟩ (.int .i64 (S 0 k : Int))).frozen? ⟨w.heap.size + 1, k * 4, none⟩ = false ∧
    InR S t (InA (k + 1) (k + 1)) w ((wr.setCell ⟨w.heap.size + 1, k, none⟩ (.int .i64 (S 0 k : Int))).setCell ⟨w.heap.size + 1, k * 4, none⟩ (.int .i64 (S k 0 : Int))).drew ∧
    w4.grownBy ((wr.setCell ⟨w.heap.size + 1, k, none⟩ (.int .i64 (S 0 k : Int))).setCell ⟨w.heap.size + 1, k * 4, none⟩ (.int .i64 (S k 0 : Int))).drew (some (w.heap.size + 1)) := by
  have h1 := InR.put (K' := InA1 k) (r := 0) (c := k) (i := k) (v := (S 0 k : Int)) hF ht (Nat.zero_le _) hk (by omega) rfl (fun r' c' _ _ h => by unfold InA1 at h; unfold InA; omega)
  exact ⟨h1.any (by omega), h1.frozen _, InR.drew (InR.put (r := k) (c := 0) h1 ht hk (Nat.zero_le _) (by omega) rfl (fun r' c' _ _ h => by unfold InA at h; unfold InA1; omega)), grown_drew (grown_set (grown_set hG _ _) _ _)⟩

set_option maxRecDepth 100000 in
set_option maxHeartbeats 3200000 in
theorem fillR_any (A B : Option Addr) (n m c d t b sh r k : Nat) (a l : List Int) (w : World) (ht : 1 ≤ t ∧ t ≤ 3) (hn : a.length = n) (hm : l.length = m) (hb : n ≤ 1048576) (hb' : m ≤ 1048576) (hc : n ≤ c) (hd : m ≤ d) (hr : r * t ≤ n) (hk : k * t ≤ m)
    (ra : RowN b w A (iv a)) (rb : RowN b w B (iv l)) (hS : Sht A B n m c d t b sh w) :
    Calls Try.prog 28 #[.pointer (some ⟨sh, 0, none⟩), .int .i64 (r : Int), .int .i64 (k : Int), .int .i64 (sdN t a l r k : Nat)] w (InMade (inS t a l r k) (pc a r t).length (pc l k t).length w) := by
  have HT : Hid (∀ j, j ≤ t → (decL (topN t a l r k) t)[j]? = some (inS t a l r k 0 j : Int)) := fun j hj => by
    unfold decL
    rw [rowL_get hj, inS_top]
  have HL : Hid (∀ j, j ≤ t → (decL (sdN t a l r k) t)[j]? = some (inS t a l r k j 0 : Int)) := fun j hj => by
    unfold decL
    rw [rowL_get hj, inS_lef, sumN_congr (g := bitN (lefN t a l r k)) fun i hi => sdN_bit t a l r k (by omega)]
  have HLt : Hid ((decL (topN t a l r k) t).length = t + 1) := rowL_length _ _
  have HLl : Hid ((decL (sdN t a l r k) t).length = t + 1) := rowL_length _ _
  have HI : Hid (∀ i j, i < t → j < t → inS t a l r k (i + 1) (j + 1) = if alikeAt (pc a r t) (pc l k t) i j = true then inS t a l r k i j + 1 else max (inS t a l r k i (j + 1)) (inS t a l r k (i + 1) j)) := fun i j hi hj => inS_in hi hj
  have HBd : Hid (∀ i j, inS t a l r k i j ≤ i + j) := sqN_le _ _ _ _
  have HO := Lib.hid (fun z => inr_start (inS t a l r k) t w z)
  have hsd := sdN_lt t a l r k
  have h64 : 2 ^ (2 * t) ≤ 64 := Nat.pow_le_pow_right (n := 2) (by decide) (show 2 * t ≤ 6 by omega)
  have e1 : ((sdN t a l r k : Nat) : Int) / 2 ^ t = ((topN t a l r k : Nat) : Int) := by
    rw [← sdN_div t a l r k]
    simp
  obtain ⟨P, cP, hp1, hp2⟩ := partI_any A n c r t a hn hb hc ht hr
  obtain ⟨Q, cQ, hq1, hq2⟩ := partI_any B m d k t l hm hb' hd ht hk
  have rp := (hp1 b w ra).1
  have rq := (hq1 b w rb).1
  have HP := Lib.hid hp2
  have HQ := Lib.hid hq2
  have hlp : (pc a r t).length ≤ t := by rw [pc_length]; omega
  have hlq : (pc l k t).length ≤ t := by rw [pc_length]; omega
  have HD := Lib.hid (fun key w (h : w.cell? ⟨sh, 3, none⟩ = some (.int .i64 (t : Int))) => decode_any sh t key w ht h)
  clear hp1 hp2 hq1 hq2 ra rb hn hm hc hd
  generalize pc a r t = p at *
  generalize pc l k t = q at *
  generalize inS t a l r k = S at *
  generalize sdN t a l r k = sd at *
  generalize topN t a l r k = tp at *
  obtain ⟨np, hnp⟩ : ∃ np, p.length = np := ⟨_, rfl⟩
  obtain ⟨nq', hnq⟩ : ∃ np, q.length = np := ⟨_, rfl⟩
  have HNP := Lib.hid hnp
  have HNQ := Lib.hid hnq
  rw [hnp] at HP hlp ⊢
  rw [hnq] at HQ hlq ⊢
  clear hnp hnq
  have hr1 : r ≤ r * t := Nat.le_mul_of_pos_right r (by omega)
  have hk1 : k ≤ k * t := Nat.le_mul_of_pos_right k (by omega)
  go_enter Try.func28, Try.ntmps28
  go_upto_region 2 with (fail)
  have N3 : Hid (iv (decL tp t) ≠ []) := fun e => by have h := HLt.out; rw [show decL tp t = [] by simpa [iv] using e] at h; simp at h
  have N4 : Hid (iv (decL sd t) ≠ []) := fun e => by have h := HLl.out; rw [show decL sd t = [] by simpa [iv] using e] at h; simp at h
  have hF := HO.out #[.int .i64 0, .int .i64 0, .int .i64 0, .int .i64 0, .int .i64 0, .int .i64 0, .int .i64 0, .int .i64 0, .int .i64 0, .int .i64 0, .int .i64 0, .int .i64 0, .int .i64 0, .int .i64 0, .int .i64 0, .int .i64 0] rfl
  clear HO
  generalize (w.alloc _).alloc _ = w2 at *
  have c3 := (hS.below hF.2.2).c3
  go_wp2_with fail
  refine (HD.out tp w2 c3).mono ?_
  rintro e w3 ⟨v, rfl, hv, hB3⟩
  rw [HLt.out] at hv
  obtain ⟨g3, d3, rfl, _, hg3, _⟩ := own_posS hv (by omega)
  have r3 : RowN (w.heap.size + 1) w3 (some ⟨g3, 0, none⟩) (iv (decL tp t)) := ⟨Row.of_own hv, fun _ ad e => by cases e; have := World.rowIs.lt hF.1.choose_spec.1; show g3 ≠ _; omega⟩
  replace hF := hF.below hB3
  clear hv hB3 c3
  have c3 := (hS.below hF.2.2).c3
  go_wp2_with fail
  refine (HD.out sd w3 c3).mono ?_
  rintro e w4 ⟨v, rfl, hv, hB4⟩
  rw [HLl.out] at hv
  obtain ⟨g4, d4, rfl, _, hg4, _⟩ := own_posS hv (by omega)
  have r4 : RowN (w.heap.size + 1) w4 (some ⟨g4, 0, none⟩) (iv (decL sd t)) := ⟨Row.of_own hv, fun _ ad e => by cases e; have := World.rowIs.lt hF.1.choose_spec.1; show g4 ≠ _; omega⟩
  replace r3 := r3.grown (below_grown hB4 (some (w.heap.size + 1)))
  replace hF := hF.below hB4
  clear hv hB4 c3 HD
  have c3 := (hS.below hF.2.2).c3
  have hG : w4.grownBy w4 (some (w.heap.size + 1)) := World.grownBy.refl _ _
  have HST : Hid (∃ k : Nat, k ≤ t + 1 ∧ Value.int .i64 0 = .int .i64 (k : Int) ∧ InR S t (InA k k) w w4 ∧ w4.grownBy w4 (some (w.heap.size + 1))) := ⟨0, Nat.zero_le _, rfl, hF.weak fun r c _ _ h => (by unfold InA at h; omega), hG⟩
  clear hF hG
  go_wp2_with fail
  go_loopw [33] (fun i wr => ∃ k : Nat, k ≤ t + 1 ∧ i = .int .i64 (k : Int) ∧ InR S t (InA k k) w wr ∧ w4.grownBy wr (some (w.heap.size + 1))) (fun i _ => t + 1 - (intOf i).toNat)
  case atStart => exact HST.out
  case round =>
    clear HST c3
    obtain ⟨i, hi, rfl, hF, hG⟩ := hrel
    by_cases hlt : i < t + 1
    · obtain ⟨_, _, e, c1⟩ := (r3.grown hG).1.intAt (HT.out i (by omega))
      cases e
      obtain ⟨_, _, e, c2⟩ := (r4.grown hG).1.intAt (HL.out i (by omega))
      cases e
      rw [Nat.zero_add] at c1 c2
      obtain ⟨v1, x1⟩ := hF.any (i := i) (by omega)
      have f1 := hF.frozen i
      have x0 := hF.any (i := i * 4) (by omega)
      obtain ⟨v0, x0⟩ := x0
      have f0 := hF.frozen (i * 4)
      obtain ⟨⟨v2, x2⟩, f2, h1, h2⟩ := in_two hF hG ht.2 (by omega)
      have c1a : ∀ j v, (wr.setCell ⟨w.heap.size + 1, j, none⟩ v).cell? ⟨g3, i, none⟩ = some (.int .i64 (S 0 i : Int)) := fun j v => cell_set_other c1 (by show g3 ≠ w.heap.size + 1; exact r3.2 N3.out _ rfl)
      have c2a : ∀ j v, (wr.setCell ⟨w.heap.size + 1, j, none⟩ v).cell? ⟨g4, i, none⟩ = some (.int .i64 (S i 0 : Int)) := fun j v => cell_set_other c2 (by show g4 ≠ w.heap.size + 1; exact r4.2 N4.out _ rfl)
      have HR := Lib.hid h1
      have HG := Lib.hid h2
      clear hF hG h1 h2
      generalize S 0 i = s at *
      generalize S i 0 = s' at *
      go_wp2_with fail
      go_region
      all_goals
        have hF := HR.out
        have hG := HG.out
        clear HR HG c1 c2 c1a c2a x1 f1 x0 f0 x2 f2
        generalize ((wr.setCell _ _).setCell _ _).drew = wz at *
        go_wp2_with fail
        go_roundw
        case rel => exact ⟨i + 1, hlt, by go_num, hF, hG⟩
        case measure => simp [intOf]; omega
    · obtain rfl : i = t + 1 := by omega
      have hF0 := hF.weak (K' := InB nq' 0 0) (fun r c a b h => by unfold InA; unfold InB at h; omega)
      clear hF hG r3 r4 HT HL HLt HLl
      have c3 := (hS.below hF0.2.2).c3
      have c1 := (hS.below hF0.2.2).c1
      have HPq : Hid (∀ q, Calls Try.prog 23 #[.slice A n c, .int .i64 (r : Int), .int .i64 (t : Int)] (wr.drewN q) fun e w'' => e = .returned (.slice P np cP) ∧ ∃ k, w'' = wr.drewN k) := fun q => (HP.out _).mono fun e w'' h => ⟨h.1, q, h.2.symm⟩
      go_wp2_with fail
      go_quiet ((go_at_call 23; exact HPq.out _))
      replace hF0 := hF0.drewN nq
      clear HPq c1 c3 HP e1
      generalize wr.drewN nq = wx at *
      go_wp2_with fail
      go_loopw [62] (fun i wr => ∃ i' : Nat, i' ≤ np ∧ i = .int .i64 (i' : Int) ∧ InR S t (InB nq' i' 0) w wr) (fun i _ => np - (intOf i).toNat)
      case atStart => exact ⟨0, Nat.zero_le _, rfl, hF0⟩
      case round =>
        clear hF0
        obtain ⟨i, hi, rfl, hF⟩ := hrel
        by_cases hit : i < np
        · obtain ⟨gp, op, rfl, hx⟩ := (rp.below hF.2.2).int (k := i) (by rw [HNP.out]; exact hit)
          have HX : Hid (p[i]? = some (p[i]'(by rw [HNP.out]; exact hit))) := List.getElem?_eq_getElem _
          generalize p[i]'(by rw [HNP.out]; exact hit) = x at *
          have c3 := (hS.below hF.2.2).c3
          have c2 := (hS.below hF.2.2).c2
          have HQq : Hid (∀ q, Calls Try.prog 23 #[.slice B m d, .int .i64 (k : Int), .int .i64 (t : Int)] (wr.drewN q) fun e w'' => e = .returned (.slice Q nq' cQ) ∧ ∃ k, w'' = wr.drewN k) := fun q => (HQ.out _).mono fun e w'' h => ⟨h.1, q, h.2.symm⟩
          clear rp
          go_wp2_with fail
          go_quiet ((go_at_call 23; exact HQq.out _))
          replace hF := hF.drewN nq
          clear HQq c2 c3 hx HQ
          generalize wr.drewN nq = wy at *
          go_wp2_with fail
          go_loopw [78] (fun j wr => ∃ j' : Nat, j' ≤ nq' ∧ j = .int .i64 (j' : Int) ∧ InR S t (InB nq' i j') w wr) (fun j _ => nq' - (intOf j).toNat)
          case atStart => exact ⟨0, Nat.zero_le _, rfl, hF⟩
          case round =>
            clear hF
            obtain ⟨j, hj, rfl, hF⟩ := hrel
            by_cases hjt : j < nq'
            · obtain ⟨gq, oq, rfl, hy⟩ := (rq.below hF.2.2).int (k := j) (by rw [HNQ.out]; exact hjt)
              have HY : Hid (q[j]? = some (q[j]'(by rw [HNQ.out]; exact hjt))) := List.getElem?_eq_getElem _
              generalize q[j]'(by rw [HNQ.out]; exact hjt) = y at *
              clear rq
              have hit3 : i < t := by omega
              have hjt3 : j < t := by omega
              have HV : Hid (S (i + 1) (j + 1) = if x = y then S i j + 1 else max (S i (j + 1)) (S (i + 1) j)) := by
                show _ = _
                rw [HI.out i j hit3 hjt3]
                unfold alikeAt
                rw [HX.out, HY.out]
                simp
              have c1 := hF.cell ht.2 (r := i) (c := j) (by omega) (by omega) (by unfold InB; omega)
              have c2 := hF.cell ht.2 (r := i) (c := j + 1) (by omega) (by omega) (by unfold InB; omega)
              have c3 := hF.cell ht.2 (r := i + 1) (c := j) (by omega) (by omega) (by unfold InB; omega)
              have c4 := hF.any (i := (i + 1) * 4 + (j + 1)) (by omega)
              have f4 := hF.frozen ((i + 1) * 4 + (j + 1))
              rw [Nat.mul_comm 4 i] at c1 c2
              rw [Nat.mul_comm 4 (i + 1)] at c3
              obtain ⟨v4, c4⟩ := c4
              have s1 := HBd.out i j
              have s2 := HBd.out i (j + 1)
              have s3 := HBd.out (i + 1) j
              have HR : Hid (∀ v : Int, v = (S (i + 1) (j + 1) : Int) → InR S t (InB nq' i (j + 1)) w (wr.setCell ⟨w.heap.size + 1, (i + 1) * 4 + (j + 1), none⟩ (.int .i64 v)).drew) := fun v hv =>
                InR.drew (InR.put (K' := InB nq' i (j + 1)) (r := i + 1) (c := j + 1) (i := (i + 1) * 4 + (j + 1)) (v := v) hF ht.2 (by omega) (by omega) (by omega) hv (fun r' c' _ _ h => by unfold InB at h ⊢; omega))
              generalize S i j = A' at *
              generalize S i (j + 1) = B' at *
              generalize S (i + 1) j = C' at *
              generalize S (i + 1) (j + 1) = D' at *
              clear hF HI HX HY
              by_cases hxy : x = y
              · subst hxy
                have HR := Lib.hid (HR.out ((A' : Int) + 1) (by rw [HV.out, if_pos rfl]; omega))
                clear HV
                go_wp2_with fail
                go_region
                have hF := HR.out
                clear HR c1 c2 c3 c4 f4 s1 s2 s3 hy
                generalize (wr.setCell _ _).drew = wz at *
                go_wp2_with fail
                go_roundw
                case rel => exact ⟨j + 1, hjt, by go_num, hF⟩
                case measure => simp [intOf]; omega
              · have hz : (x == y) = false := by simpa using hxy
                by_cases hBC : B' < C'
                · have HR := Lib.hid (HR.out (C' : Int) (by rw [HV.out, if_neg hxy]; omega))
                  clear HV hxy
                  go_wp2_with fail
                  go_region
                  have hF := HR.out
                  clear HR c1 c2 c3 c4 f4 s1 s2 s3 hy
                  generalize (wr.setCell _ _).drew = wz at *
                  go_wp2_with fail
                  go_roundw
                  case rel => exact ⟨j + 1, hjt, by go_num, hF⟩
                  case measure => simp [intOf]; omega
                · have HR := Lib.hid (HR.out (B' : Int) (by rw [HV.out, if_neg hxy]; omega))
                  clear HV hxy
                  go_wp2_with fail
                  go_region
                  have hF := HR.out
                  clear HR c1 c2 c3 c4 f4 s1 s2 s3 hy
                  generalize (wr.setCell _ _).drew = wz at *
                  go_wp2_with fail
                  go_roundw
                  case rel => exact ⟨j + 1, hjt, by go_num, hF⟩
                  case measure => simp [intOf]; omega
            · have hF1 := hF.weak (K' := InB nq' (i + 1) 0) (fun r' c' a b h => by unfold InB at h ⊢; omega)
              clear hF
              go_wp2_with fail
              go_roundw
              case rel => exact ⟨i + 1, hit, by go_num, hF1⟩
              case measure => simp [intOf]; omega
        · obtain rfl : i = np := by omega
          obtain ⟨cs, old, g1, g2, g3, g4, g5, g6, g7⟩ := in_end hF ht.2 hlp hlq
          have G1 := Lib.hid g1
          have G2 := Lib.hid g2
          have G3 : Hid ((Try.prog.info? 75).map (·.size) = some cs.size) := by show _ = _; rw [g3]; exact Try.sizeInn
          have G4 : Hid (old.size = cs.size) := by show _ = _; rw [g3, g4]
          have G5 := Lib.hid g5
          have G6 := Lib.hid g3
          have HQ : Hid (InMade S i nq' w (.returned (.agg cs)) (wr.setRow w.heap.size cs)) := ⟨cs, rfl, g3, g5, g6, below_setRow g7 (Nat.le_refl _) cs⟩
          have HG := Lib.hid (setRow_heap wr w.heap.size old cs 75 (0, 0) g2)
          clear g1 g2 g3 g4 g5 g6 g7 hF
          go_upto_region 19 with (fail)
          go_wp2_with (first | (with_reducible refine wpList_load_row rfl 75 (.tmp 9) rfl (w.heap.size + 1) rfl 75 cs (0, 0) _ G1.out Try.underlying75 rfl G3.out ?_) | (with_reducible refine wpList_plain rfl fun _ hK => wp_store_row 75 (.tmp 8) (.tmp 119) rfl w.heap.size cs rfl rfl 75 old G2.out G3.out G4.out G5.out (hK _ _ ?_)))
          exact fillR_end rfl rfl rfl HG.out G6.out HQ.out

end Go.Proofs.Ytdedmmeefffpkaa
