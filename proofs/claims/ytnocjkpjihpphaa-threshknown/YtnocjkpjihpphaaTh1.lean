/-
  Package thresh: Find, put, Put; slices.Clone at []int.
-/
import Derived.Test.YtnocjkpjihpphaaThP
import Derived.Test.YtnocjkpjihpphaaSrch
import Derived.Test.YtnocjkpjihpphaaOwnJ
import Derived.Test.YtnocjkpjihpphaaKnK
import Derived.Lib.SliceRun
namespace Go.Proofs.Ytnocjkpjihpphaa
open Go.RowKit

theorem cnt_countP (t : List Int) (j : Int) : t.countP (· < j) = cntL t j := by unfold cntL; rw [List.countP_eq_length_filter]

set_option maxHeartbeats 800000 in
theorem tfind_any (A : Option Addr) (n c : Nat) (t : List Int) (j : Int) (w : World) (hn : t.length = n) (hb : n ≤ 1048576) (hs : Asc t) (hr : Row w A (iv t)) :
    Calls Try.prog 11 #[.slice A n c, .int .i64 j] w fun e w' => e = .returned (.int .i64 (cntL t j : Nat)) ∧ ∃ q, w' = w.drewN q := by
  have C := Lib.hid (search_any A n c t j w hn hb hs hr)
  rw [cnt_countP] at C
  clear hs hr hn
  generalize cntL t j = k at *
  go_enter Try.func11, Try.ntmps11
  go_wp2_with fail
  refine C.out.mono ?_
  rintro e w1 ⟨⟨b, rfl⟩, q, rfl⟩
  go_wp2_with fail
  go_ret
  exact ⟨rfl, q, rfl⟩

set_option maxRecDepth 100000 in
set_option maxHeartbeats 1600000 in
theorem clone_any (A : Option Addr) (n c : Nat) (l : List Int) (w : World) (hn : l.length = n) (hb : n ≤ 1048576) (hnil : A = none → c = 0) (hr : Row w A (iv l)) :
    Calls Try.prog 23 #[.slice A n c] w (MadeI l w) := by
  obtain ⟨i0, hi, hz0, hz1, hz2⟩ := info_parts Try.infoInt
  have qT : ∀ (w : World) (a : Option Addr) (n c n' c' : Nat), (binOp .eql 22 (.slice a n c) (.slice none n' c')).run Try.prog w = .ok (.bool a.isNone) w := fun w a n c n' c' => Lib.run_eql_slice_nil w _ _ a n c n' c' Try.underlying22
  cases A with
  | none =>
    have h0 : l = [] := by
      by_cases h : iv l = []
      · simpa [iv] using h
      · obtain ⟨g, o, e', _⟩ := hr h
        cases e'
    subst h0
    have hc := hnil rfl
    subst hc
    obtain rfl : n = 0 := by simpa using hn.symm
    have HF : Hid (MadeI [] w (.returned (.slice none 0 0)) w) := ⟨_, rfl, World.ownsRow_nil _ _ _ _, Below.refl _ _⟩
    clear hr hn hnil
    go_enter Try.func23, Try.ntmps23
    go_wp2_with fail
    go_ret
    exact HF.out
  | some ad =>
    have HN := Lib.hid hn
    clear hn
    have q1 := hr.alloc (.cells #[] 3)
    have o0 := own_emptyS w 3 1 (B := w.heap.size) (Nat.le_refl _)
    have hs0 : w.heap.size ≤ (w.alloc (.cells #[] 3)).heap.size := by simp
    have B0 : Below w.heap.size w (w.alloc (.cells #[] 3)) := (Below.refl _ _).alloc (Nat.le_refl _) _
    clear hr
    go_enter Try.func23, Try.ntmps23
    go_wp2_with (at_builtin; refine append_row rfl (.tmp 5) (.tmp 6) 22 rfl w.heap.size 3 i0 (.int .i64 0) 8 Try.underlying22 hi hz0 hz1 hz2 rfl _ 0 _ rfl o0 (some ad) n c (iv l) rfl (by rw [iv_length, HN.out]) q1 (fun h => by cases h) (iv_one _) (by unfold maxLen; omega) (by omega) hs0 ?_)
    intro v' w2 h2 h3
    have HF : Hid (MadeI l w (.returned v') w2) := by
      refine ⟨v', rfl, ?_, B0.grown h3 hs0 (fun k e => by simp [Value.ownBlock] at e; omega)⟩
      rw [HN.out]
      exact h2
    clear h2 h3 B0 q1 o0
    go_wp2_with fail
    go_ret
    exact HF.out

set_option maxRecDepth 100000 in
set_option maxHeartbeats 1600000 in
theorem tput_own (base : Nat) (v : Value) (n : Nat) (t : List Int) (j : Int) (w : World) (hn : t.length = n) (hb : n ≤ 1048576) (hs : Asc t) (ho : w.ownsRow base 3 1 v n (iv t)) (hB : base ≤ w.heap.size) :
    Calls Try.prog 22 #[v, .int .i64 j] w fun e w' => ∃ v', e = .returned (.tuple #[v', .int .i64 (cntL t j : Nat)]) ∧ OwJ base v (putT t j) w v' w' := by
  obtain ⟨i0, hi, hz0, hz1, hz2⟩ := info_parts Try.infoInt
  have hle := cnt_le t j
  rw [hn] at hle
  by_cases hk : cntL t j = n
  · have HP : Hid (putT t j = t ++ [j]) := by show _ = _; unfold putT; rw [if_pos (by rw [hk, hn])]
    obtain ⟨A, c, rfl, hc1, hc2, hr, hnil⟩ := own_slice ho
    have C := Lib.hid (tfind_any A n c t j w hn hb hs hr)
    rw [hk] at C
    rw [hk, HP.out]
    have HN := Lib.hid hn
    clear hn hs hr hk hle HP
    go_enter Try.func22, Try.ntmps22
    go_wp2_with fail
    refine C.out.mono ?_
    rintro e w1 ⟨rfl, q, hq⟩
    have hbl := below_of hq
    have hs1 := hbl.size
    have o1 := own_below ho hbl (Nat.le_refl _)
    have R0 : OwJ base (.slice A n c) t w (.slice A n c) w1 := by
      have : w.ownsRow base 3 1 (.slice A n c) t.length (iv t) := by rw [HN.out]; exact ho
      exact (OwJ.refl this).call hbl
    clear hq C ho
    go_wp2_with (at_builtin; refine wpList_append_own_at _ rfl (.tmp 14) (.tmp 16) 22 rfl base 3 i0 (.int .i64 0) 1 8 Try.underlying22 hi hz0 hz1 hz2 rfl (by decide) _ _ _ rfl (o1.alloc _) ⟨w1.heap.size, 0, none⟩ 1 1 [_] rfl rfl (cell_one_new _ _ _) (one_int _ _) (by unfold maxLen; omega) (by omega) (by simp; omega) ?_)
    intro v' w3 hown' hg' _ h5
    have RR := Lib.hid (R0.step ((OwJ.refl (by rw [HN.out]; exact o1)).call (below_a1 w1 (.cells #[.int .i64 j] 3)) |>.step (owj_app HN.out hown' hg' (by simpa using h5))))
    clear hown' hg' h5 R0 o1 hbl
    go_wp2_with fail
    go_ret2
    exact ⟨_, rfl, RR.out⟩
  · have HP : Hid (putT t j = t.set (cntL t j) j) := by show _ = _; unfold putT; rw [if_neg (by rw [hn]; exact hk)]
    obtain ⟨g, c, rfl, hf, hg1, hg2⟩ := own_posS ho (by omega)
    have hr := Row.of_own ho
    have C := Lib.hid (tfind_any (some ⟨g, 0, none⟩) n c t j w hn hb hs hr)
    rw [HP.out]
    have hlt : cntL t j < n := by omega
    generalize cntL t j = k at *
    have hz : ((k : Int) == (n : Int)) = false := by simp; omega
    have HN := Lib.hid hn
    clear hn hs hr hk hle HP
    go_enter Try.func22, Try.ntmps22
    go_wp2_with fail
    refine C.out.mono ?_
    rintro e w1 ⟨rfl, q, hq⟩
    have hbl := below_of hq
    have o1 := own_below ho hbl (Nat.le_refl _)
    have R0 : OwJ base (.slice (some ⟨g, 0, none⟩) n c) t w (.slice (some ⟨g, 0, none⟩) n c) w1 := by
      have : w.ownsRow base 3 1 (.slice (some ⟨g, 0, none⟩) n c) t.length (iv t) := by rw [HN.out]; exact ho
      exact (OwJ.refl this).call hbl
    have hf1 : ∀ i, w1.frozen? ⟨g, i, none⟩ = false := by subst hq; exact hf
    have t1 := hf1 k
    have RR := Lib.hid (R0.step (owj_set (k := k) (x := j) HN.out o1))
    obtain ⟨ge, oe, e, hcl⟩ := (Row.of_own o1).int (k := k) (by rw [HN.out]; exact hlt)
    cases e
    rw [Nat.zero_add] at hcl
    clear hq C ho hf hf1 R0 o1 hbl
    go_wp2_with fail
    go_ret2
    exact ⟨_, rfl, RR.out⟩

set_option maxRecDepth 100000 in
set_option maxHeartbeats 1600000 in
theorem tPut_any (A : Option Addr) (n c : Nat) (t : List Int) (j : Int) (w : World) (hn : t.length = n) (hb : n ≤ 1048576) (hs : Asc t) (hnil : A = none → c = 0) (hr : Row w A (iv t)) :
    Calls Try.prog 8 #[.slice A n c, .int .i64 j] w (MadeIn (putT t j) (cntL t j : Nat) w) := by
  have HN := Lib.hid hn
  have HS := Lib.hid hs
  clear hn hs
  go_enter Try.func8, Try.ntmps8
  go_wp2_with fail
  refine (clone_any A n c t w HN.out hb hnil hr).mono ?_
  rintro e w1 ⟨v, rfl, hv, hbl⟩
  have hsz := hbl.size
  have C := Lib.hid (tput_own w.heap.size v n t j w1 HN.out hb HS.out (by rw [← HN.out]; exact hv) hsz)
  clear hr hnil
  go_wp2_with fail
  refine C.out.mono ?_
  rintro e w2 ⟨v', rfl, RR⟩
  have HB := Lib.hid (RR.below hbl hv)
  have H1 := Lib.hid RR.1
  clear RR hv hbl C
  go_wp2_with fail
  go_ret2
  exact ⟨_, rfl, H1.out, HB.out⟩

end Go.Proofs.Ytnocjkpjihpphaa
