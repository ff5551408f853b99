/-
  Words and contracts that the proof leans on.
-/
import Derived.Test.YtdedmmeefffpkaaM12
import Derived.Test.YtdedmmeefffpkaaM2
import Derived.Test.YtdedmmeefffpkaaM13
import Derived.Test.YtdedmmeefffpkaaM14
import Derived.Test.YtdedmmeefffpkaaM3
namespace Go.Proofs.Ytdedmmeefffpkaa
open Go.RowKit

theorem nth_drop (l : List Int) (a k : Nat) : nth (l.drop a) k = nth l (a + k) := by unfold nth; rw [List.getElem?_drop]
theorem nth_i64 {l : List Int} (h : ∀ x ∈ l, I64 x) {k : Nat} : I64 (nth l k) := by
  unfold nth
  cases e : l[k]? with
  | none => exact i64_small (by simp)
  | some x => exact h x (List.mem_of_getElem? e)
theorem own_cellB {w : World} {B n g c k : Nat} {l : List UInt8} {b : UInt8} (h : w.ownsRow B 5 1 (.slice (some ⟨g, 0, none⟩) n c) n (bv l)) (hk : l[k]? = some b) : w.cell? ⟨g, k, none⟩ = some (.int .u8 (b.toNat : Int)) := by
  obtain ⟨hl, rfl⟩ := List.getElem?_eq_some_iff.1 hk
  obtain ⟨g', o', e, hc⟩ := (Row.of_own h).byte hl
  cases e
  rwa [Nat.zero_add] at hc

/-- What a call leaves that returns the steps of a row. -/
def MadeD (row : List Int) (w : World) (e : Ending) (w' : World) : Prop := ∃ v, e = .returned (.tuple #[v, .int .i64 (errS row)]) ∧ OwnB w.heap.size w' v (stepsL row) ∧ Below w.heap.size w w'
theorem madeD_no {row : List Int} {w w' : World} (h : isS row = false) (hb : Below w.heap.size w w') : MadeD row w (.returned (.tuple #[.slice none 0 0, .int .i64 1])) w' := by
  obtain ⟨h1, h2⟩ := isS_no h
  refine ⟨_, by rw [h2], ?_, hb⟩
  rw [h1]
  exact World.ownsRow_nil _ _ _ _

/-- The head of a round of Of. -/
def OfRel (row : List Int) (N : Nat) (w : World) (i : Value) (wr : World) : Prop :=
  ∃ k : Nat, k ≤ N ∧ i = .int .i64 (k : Int) ∧ wr.ownsRow w.heap.size 5 1 (.slice (some ⟨w.heap.size, 0, none⟩) N N) N (bv (dS row N k)) ∧ okS row k = true ∧ Below w.heap.size w wr
theorem made_bytes (N : Nat) : (madeCells #[.int .u8 0] N).toList = bv (List.replicate N 0) := by
  rw [toList_madeCells_one]
  unfold bv
  rw [List.map_replicate]
  rfl
theorem of_start {row : List Int} {N : Nat} {w wr : World} (h : wr.ownsRow w.heap.size 5 1 (.slice (some ⟨w.heap.size, 0, none⟩) N N) N (madeCells #[.int .u8 0] N).toList) (hb : Below w.heap.size w wr) : OfRel row N w (.int .i64 0) wr := by
  rw [made_bytes, ← dS_zero row] at h
  exact ⟨0, Nat.zero_le _, rfl, h, rfl, hb⟩
theorem of_same {row : List Int} {N k : Nat} {w wr : World} (hk : k < N) (h : wr.ownsRow w.heap.size 5 1 (.slice (some ⟨w.heap.size, 0, none⟩) N N) N (bv (dS row N k))) (ho : okS row k = true) (hb : Below w.heap.size w wr) (e : nth row (k + 1) = nth row k) : OfRel row N w (.int .i64 ((k + 1 : Nat) : Int)) wr :=
  ⟨k + 1, hk, rfl, by rw [dS_same hk e]; exact h, okS_same ho e, hb⟩
theorem of_up {row : List Int} {N k : Nat} {w wr : World} (hk : k < N) (h : wr.ownsRow w.heap.size 5 1 (.slice (some ⟨w.heap.size, 0, none⟩) N N) N (bv (dS row N k))) (ho : okS row k = true) (hb : Below w.heap.size w wr) (e : nth row (k + 1) ≠ nth row k) (e' : nth row (k + 1) = nth row k + 1) : OfRel row N w (.int .i64 ((k + 1 : Nat) : Int)) (wr.setCell ⟨w.heap.size, k, none⟩ (.int .u8 1)) := by
  refine ⟨k + 1, hk, rfl, ?_, okS_up ho e', hb.setCell (Nat.le_refl _) _⟩
  have := own_setS h k (.int .u8 ((1 : UInt8).toNat : Int))
  rw [bv_set] at this
  rw [dS_up hk e]
  exact this
theorem of_done {row : List Int} {N : Nat} {w wr : World} (hn : row.length = N + 1) (h : wr.ownsRow w.heap.size 5 1 (.slice (some ⟨w.heap.size, 0, none⟩) N N) N (bv (dS row N N))) (ho : okS row N = true) (hb : Below w.heap.size w wr) : MadeD row w (.returned (.tuple #[.slice (some ⟨w.heap.size, 0, none⟩) N N, .int .i64 0])) wr := by
  obtain ⟨_, h1, h2⟩ := isS_yes hn ho
  refine ⟨_, by rw [h2], ?_, hb⟩
  rw [dS_all] at h
  unfold OwnB
  rw [h1, stpS_length]
  exact h

end Go.Proofs.Ytdedmmeefffpkaa

namespace Go.Proofs.Ytdedmmeefffpkaa
open Go.RowKit

/-- The head of a round of Row. -/
def RdF (first : Int) (d : List UInt8) (k : Nat) : Nat → Int := fun c => if c ≤ k then rowD first d c else 0
def RdRel (first : Int) (d : List UInt8) (n : Nat) (w : World) (i : Value) (wr : World) : Prop :=
  ∃ k : Nat, k ≤ n ∧ i = .int .i64 (k : Int) ∧ IsRow wr w.heap.size (n + 1) (RdF first d k) ∧ Below w.heap.size w wr
theorem rd_start {first : Int} {d : List UInt8} {n : Nat} {w wr : World} (h : IsRow wr w.heap.size (n + 1) (fun _ => 0)) (hb : Below w.heap.size w wr) : RdRel first d n w (.int .i64 0) (wr.setCell ⟨w.heap.size, 0, none⟩ (.int .i64 first)) := by
  refine ⟨0, Nat.zero_le _, rfl, ?_, hb.setCell (Nat.le_refl _) _⟩
  refine World.rowIs.congr (nx_start h first) fun c _ => ?_
  unfold RdF
  try dsimp only
  by_cases e : c = 0
  · subst e; rfl
  · rw [if_neg e, if_neg (by omega)]
theorem rd_same {first : Int} {d : List UInt8} {n k : Nat} {w wr : World} (hk : k < n) (h : IsRow wr w.heap.size (n + 1) (RdF first d k)) (hb : Below w.heap.size w wr) (e : bget d k = 0) : RdRel first d n w (.int .i64 ((k + 1 : Nat) : Int)) (wr.setCell ⟨w.heap.size, k + 1, none⟩ (.int .i64 (rowD first d k))) := by
  refine ⟨k + 1, hk, rfl, ?_, hb.setCell (Nat.le_refl _) _⟩
  refine World.rowIs.congr (World.rowIs.set h (k + 1) _) fun c _ => ?_
  unfold RdF
  try dsimp only
  by_cases g : c = k + 1
  · subst g
    rw [if_pos rfl, if_pos (Nat.le_refl _), rowD, if_pos e]
  · rw [if_neg g]
    by_cases g2 : c ≤ k
    · rw [if_pos g2, if_pos (by omega)]
    · rw [if_neg g2, if_neg (by omega)]
theorem rd_up {first : Int} {d : List UInt8} {n k : Nat} {w wr : World} (hk : k < n) (h : IsRow wr w.heap.size (n + 1) (RdF first d k)) (hb : Below w.heap.size w wr) (e : bget d k ≠ 0) {z : Int} (hz : z = IntKind.i64.wrap (rowD first d k + 1)) : RdRel first d n w (.int .i64 ((k + 1 : Nat) : Int)) ((wr.setCell ⟨w.heap.size, k + 1, none⟩ (.int .i64 (rowD first d k))).setCell ⟨w.heap.size, k + 1, none⟩ (.int .i64 z)) := by
  subst hz
  refine ⟨k + 1, hk, rfl, ?_, (hb.setCell (Nat.le_refl _) _).setCell (Nat.le_refl _) _⟩
  refine World.rowIs.congr (World.rowIs.set (World.rowIs.set h (k + 1) _) (k + 1) _) fun c _ => ?_
  unfold RdF
  try dsimp only
  by_cases g : c = k + 1
  · subst g
    rw [if_pos rfl, if_pos (Nat.le_refl _), rowD, if_neg e]
  · rw [if_neg g, if_neg g]
    by_cases g2 : c ≤ k
    · rw [if_pos g2, if_pos (by omega)]
    · rw [if_neg g2, if_neg (by omega)]

theorem byte_ne {b : UInt8} (h : b ≠ 0) : ((b.toNat : Int) != 0) = true := by
  simp only [bne_iff_ne, ne_eq]
  intro e
  apply h
  have : b.toNat = 0 := by omega
  exact UInt8.toNat_inj.1 this

set_option maxRecDepth 100000 in
set_option maxHeartbeats 1600000 in
theorem prow_any (first : Int) (A : Option Addr) (n c : Nat) (d : List UInt8) (w : World) (hn : d.length = n) (hb : n ≤ 1048576) (hr : Row w A (bv d)) :
    Calls Try.prog 19 #[.int .i64 first, .slice A n c] w (MadeI (rowDL first d) w) := by
  obtain ⟨i0, hi, hz0, hz1, hz2⟩ := info_parts Try.infoInt
  have HN := Lib.hid hn
  clear hn
  go_enter Try.func19, Try.ntmps19
  go_upto_region 2 with (at_make; refine wpList_make_row _ rfl _ _ 31 rfl 3 i0 (.int .i64 0) Try.underlying31 hi hz0 hz1 rfl .i64 .i64 (n + 1) rfl rfl (by rw [hz2]; omega) (by omega) ?_)
  have hI := fr_made w n
  have hBa : Below w.heap.size w (w.alloc (.cells (madeCells #[.int .i64 0] (n + 1)) 3)) := (Below.refl _ _).alloc (Nat.le_refl _) _
  generalize w.alloc (.cells (madeCells #[.int .i64 0] (n + 1)) 3) = wa at *
  have t1 := World.rowIs.cell hI (i := 0) (by omega)
  have t2 := World.rowIs.frozen hI 0
  have HS := Lib.hid (rd_start (first := first) (d := d) hI hBa)
  clear hI hBa
  go_wp2_with fail
  go_loopw [17] (fun i wr => RdRel first d n w i wr) (fun i _ => n - (intOf i).toNat)
  case atStart => exact HS.out
  case round =>
    clear HS t1 t2
    obtain ⟨k, hk, rfl, hI, hbr⟩ := hrel
    by_cases hlt : k < n
    · obtain ⟨g, o, rfl, hc⟩ := (hr.below hbr).byte (k := k) (by rw [HN.out]; exact hlt)
      have HX : Hid (bget d k = d[k]'(by rw [HN.out]; exact hlt)) := bget_of (List.getElem?_eq_getElem _)
      generalize d[k]'(by rw [HN.out]; exact hlt) = b at *
      have s1 := World.rowIs.cell hI (i := k) (by omega)
      have s2 := World.rowIs.cell hI (i := k + 1) (by omega)
      have s3 := World.rowIs.frozen hI (k + 1)
      rw [show RdF first d k k = rowD first d k from if_pos (Nat.le_refl _)] at s1
      rw [show RdF first d k (k + 1) = 0 from if_neg (by omega)] at s2
      by_cases hz : b = 0
      · have R := Lib.hid (rd_same hlt hI hbr (by rw [HX.out]; exact hz))
        have e1 : ((b.toNat : Int) != 0) = false := by subst hz; rfl
        clear hI hbr hr HX hz
        generalize rowD first d k = y at *
        go_wp2_with fail
        go_roundw
        case rel => exact R.out
        case measure => simp [intOf]; omega
      · have R := Lib.hid (fun z => rd_up (z := z) hlt hI hbr (by rw [HX.out]; exact hz))
        have e1 := byte_ne hz
        have q1 : (wr.setCell ⟨w.heap.size, k + 1, none⟩ (.int .i64 (rowD first d k))).cell? ⟨w.heap.size, k + 1, none⟩ = some (.int .i64 (rowD first d k)) := by
          have := World.rowIs.cell (World.rowIs.set hI (k + 1) (.int .i64 (rowD first d k))) (i := k + 1) (by omega)
          rwa [if_pos rfl] at this
        have q2 := World.rowIs.frozen (World.rowIs.set hI (k + 1) (.int .i64 (rowD first d k))) (k + 1)
        clear hI hbr hr HX hz
        generalize rowD first d k = y at *
        go_wp2_with fail
        go_roundw
        case rel => exact R.out _ (by rw [IntWalk.i64_left])
        case measure => simp [intOf]; omega
    · obtain rfl : k = n := by omega
      have HF := Lib.hid (made_isRow (l := rowDL first d) hI (Nat.le_refl _) hb (by unfold rowDL; rw [HN.out]; exact rowL_congr fun c hc => (if_pos hc).symm) hbr)
      clear hI hbr hr
      go_wp2_with fail
      go_ret
      exact HF.out

end Go.Proofs.Ytdedmmeefffpkaa

namespace Go.Proofs.Ytdedmmeefffpkaa
open Go.RowKit

set_option maxRecDepth 100000 in
theorem size_byte (w : World) : (sizeOf (Try.prog.elem 43)).run Try.prog w = .ok 1 w := by
  rfl
set_option maxRecDepth 100000 in
/-- d[lo:hi] of bytes. -/
theorem sliceB (A : Option Addr) (n c lo hi : Nat) (h1 : lo ≤ hi) (h2 : hi ≤ c) :
    ∃ A' c', (∀ w, (Instr.sliceAt 43 (.slice A n c) (some (.int .i64 (lo : Int))) (some (.int .i64 (hi : Int))) none).run Try.prog w = .ok (.slice A' (hi - lo) c') w) ∧ hi - lo ≤ c' ∧ (lo < c → A' = A.map (·.add lo)) := by
  refine ⟨if c = lo then A else A.map (·.add (lo * 1)), c - lo, fun w => ?_, by omega, fun h => ?_⟩
  · rw [run_sliceAt_slice w 43 _ _ _ _ Try.underlying43, run_slice_lh w 43 A n c Try.underlying43 .i64 .i64 (lo : Int) (hi : Int) (by omega) (by omega) (by omega), size_byte]
    simp [Result.andThen, sliced]
  · rw [if_neg (by omega), Nat.mul_one]

/-- What part leaves. -/
def PartOf (A : Option Addr) (n : Nat) (at' t : Int) (w : World) (e : Ending) (w' : World) : Prop := ∃ A' c', e = .returned (.slice A' (prt n at' t) c') ∧ prt n at' t ≤ c' ∧ (0 < prt n at' t → A' = A.map (·.add at'.toNat)) ∧ w = w'
theorem part_none (A : Option Addr) {n : Nat} {at' t : Int} (w : World) (h : prt n at' t = 0) : PartOf A n at' t w (.returned (.slice none 0 0)) w :=
  ⟨none, 0, by rw [h], by omega, fun h' => by omega, rfl⟩

set_option maxHeartbeats 1600000 in
theorem part_any (A : Option Addr) (n c : Nat) (at' t : Int) (w : World) (hb : n ≤ 1048576) (hc : n ≤ c) (h1 : I64 at') (h2 : I64 t) :
    Calls Try.prog 30 #[.slice A n c, .int .i64 at', .int .i64 t] w (PartOf A n at' t w) := by
  unfold I64 at h1 h2
  by_cases hin : 0 ≤ at' ∧ at' ≤ n ∧ 1 ≤ t ∧ t ≤ 3
  · obtain ⟨g1, g2, g3, g4⟩ := hin
    have HP : Hid (prt n at' t = min t.toNat (n - at'.toNat)) := prt_is ⟨g1, g3, g4⟩
    obtain ⟨a, rfl⟩ := Int.eq_ofNat_of_zero_le g1
    obtain ⟨s, rfl⟩ := Int.eq_ofNat_of_zero_le (by omega : 0 ≤ t)
    have g2' : a ≤ n := by omega
    simp only [Int.toNat_natCast] at HP
    obtain ⟨m, hm⟩ : ∃ m, a + min s (n - a) = m := ⟨_, rfl⟩
    obtain ⟨A', c', hs, hc', hA⟩ := sliceB A n c a m (by omega) (by omega)
    have HF : Hid (PartOf A n a s w (.returned (.slice A' (m - a) c')) w) := by
      have e : prt n a s = m - a := by rw [HP.out]; omega
      refine ⟨A', c', by rw [e], by omega, fun h => ?_, rfl⟩
      exact hA (by omega)
    have em : (if (n : Int) < (a : Int) + (s : Int) then (n : Int) else (a : Int) + (s : Int)) = (m : Int) := by split <;> omega
    clear hA hc' HP hm
    go_enter Try.func30, Try.ntmps30
    go_wp2_with fail
    go_ret
    exact HF.out
  · have HF : Hid (PartOf A n at' t w (.returned (.slice none 0 0)) w) := part_none A w (by
      by_cases h : 0 ≤ at' ∧ 1 ≤ t ∧ t ≤ 3
      · rw [prt_is h]; omega
      · exact prt_out h)
    by_cases g1 : at' < 0
    · go_enter Try.func30, Try.ntmps30
      go_wp2_with fail
      go_ret
      exact HF.out
    · by_cases g2 : (n : Int) < at'
      · go_enter Try.func30, Try.ntmps30
        go_wp2_with fail
        go_ret
        exact HF.out
      · by_cases g3 : t < 1
        · go_enter Try.func30, Try.ntmps30
          go_wp2_with fail
          go_ret
          exact HF.out
        · have g4 : 3 < t := by omega
          go_enter Try.func30, Try.ntmps30
          go_wp2_with fail
          go_ret
          exact HF.out

theorem or_key {K k : Nat} (hk : k < 3) (h : K < 2 ^ k) : bits .or .i64 (K : Int) (wrap64 (2 ^ k)) = ((K + 2 ^ k : Nat) : Int) := by
  have : ∀ k : Nat, k < 3 → ∀ K : Nat, K < 2 ^ k → bits .or .i64 (K : Int) (wrap64 (2 ^ k)) = ((K + 2 ^ k : Nat) : Int) := by decide +kernel
  exact this k hk K h
theorem prt_room {n : Nat} {at' t : Int} {k : Nat} (h : k < prt n at' t) : at'.toNat + k < n := by
  have := prt_in (n := n) (at' := at') (t := t) (by omega)
  omega

/-- The head of a round of Key. -/
def KyRel (d : List UInt8) (s m : Nat) (w : World) (v i : Value) (wr : World) : Prop := ∃ k : Nat, k ≤ m ∧ i = .int .i64 (k : Int) ∧ v = .int .i64 (keyN d s k : Nat) ∧ wr = w

set_option maxRecDepth 100000 in
set_option maxHeartbeats 1600000 in
theorem pkey_any (A : Option Addr) (n c : Nat) (d : List UInt8) (at' t : Int) (w : World) (hn : d.length = n) (hb : n ≤ 1048576) (hc : n ≤ c) (h1 : I64 at') (h2 : I64 t) (hr : Row w A (bv d)) :
    Calls Try.prog 24 #[.slice A n c, .int .i64 at', .int .i64 t] w fun e w' => e = .returned (.int .i64 (keyL d at' t : Nat)) ∧ w = w' := by
  have hp := part_any A n c at' t w hb hc h1 h2
  have HM := Lib.hid (fun k => prt_room (n := n) (at' := at') (t := t) (k := k))
  have hm3 := prt_le n at' t
  have HE : Hid (keyL d at' t = keyN d at'.toNat (prt n at' t)) := by show _ = _; unfold keyL; rw [hn]
  rw [HE.out]
  unfold PartOf at hp
  clear HE
  generalize prt n at' t = m at *
  have HP := Lib.hid hp
  have HN := Lib.hid hn
  clear hn hp
  go_enter Try.func24, Try.ntmps24
  go_wp2_with fail
  refine HP.out.mono ?_
  rintro e w' ⟨A', c', rfl, _, hA, rfl⟩
  have HA := Lib.hid hA
  clear hA HP
  go_wp2_with fail
  go_loopw [7, 15] (fun v i wr => KyRel d at'.toNat m w v i wr) (fun _ i _ => m - (intOf i).toNat)
  case atStart => exact ⟨0, Nat.zero_le _, rfl, rfl, rfl⟩
  case round =>
    obtain ⟨k, hk, rfl, rfl, rfl⟩ := hrel
    by_cases hlt : k < m
    · obtain ⟨g, o, rfl, hcc⟩ := hr.byte (k := at'.toNat + k) (by rw [HN.out]; exact HM.out k hlt)
      have HX : Hid (bget d (at'.toNat + k) = d[at'.toNat + k]'(by rw [HN.out]; exact HM.out k hlt)) := bget_of (List.getElem?_eq_getElem _)
      generalize d[at'.toNat + k]'(by rw [HN.out]; exact HM.out k hlt) = b at *
      have e := HA.out (by omega)
      subst e
      rw [← Nat.add_assoc] at hcc
      have hK := keyN_lt d at'.toNat k
      have HK : Hid (keyN d at'.toNat (k + 1) = if b = 0 then keyN d at'.toNat k else keyN d at'.toNat k + 2 ^ k) := by show keyN d at'.toNat (k + 1) = _; rw [keyN, HX.out]
      generalize keyN d at'.toNat k = K at *
      clear hr HX HM
      by_cases hz : b = 0
      · have e1 : ((b.toNat : Int) != 0) = false := by subst hz; rfl
        rw [if_pos hz] at HK
        clear hz
        go_wp2_with fail
        go_roundw
        case rel => exact ⟨k + 1, hlt, by go_num, by rw [HK.out], rfl⟩
        case measure => simp [intOf]; omega
      · have e1 := byte_ne hz
        rw [if_neg hz] at HK
        clear hz
        go_wp2_with fail
        go_roundw
        case rel =>
          refine ⟨k + 1, hlt, by go_num, ?_, rfl⟩
          rw [HK.out, or_key (by omega) hK]
        case measure => simp [intOf]; omega
    · obtain rfl : k = m := by omega
      clear hr
      go_wp2_with fail
      go_ret
      exact ⟨rfl, rfl⟩

end Go.Proofs.Ytdedmmeefffpkaa
