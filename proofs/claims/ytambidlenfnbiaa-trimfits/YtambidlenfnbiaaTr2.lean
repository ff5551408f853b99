/-
  Contracts of package trim's Of and Mid.
-/
import Derived.Test.YtambidlenfnbiaaTr1
import Derived.Deep.RegionLaw
namespace Go.Proofs.Ytambidlenfnbiaa
open Go.RowKit

theorem suffix_quiet (A B : Option Addr) (n m c d q : Nat) (a b : List Int) (w : World) (s : Nat) (hn : a.length = n) (hm : b.length = m) (hb : n ≤ 2147483648) (hb' : m ≤ 2147483648) (h1 : Row w A (iv a)) (h2 : Row w B (iv b)) (hs : suf a b = s) :
    Calls Try.prog 23 #[.slice A n c, .slice B m d] (w.drewN q) fun e w'' => e = .returned (.int .i64 s) ∧ ∃ k, w'' = w.drewN k := by
  subst hs
  exact Calls.quiet_of (suffix_any A B n m c d a b (w.drewN q) hn hm hb hb' h1 h2)

theorem iv_take (l : List Int) (k : Nat) : iv (l.take k) = (iv l).take k := by simp [iv, List.map_take]
theorem iv_drop (l : List Int) (k : Nat) : iv (l.drop k) = (iv l).drop k := by simp [iv, List.map_drop]
theorem Row.cutI {w : World} {A : Option Addr} {l : List Int} (h : Row w A (iv l)) (lo k cap : Nat) (hlo : lo + k ≤ l.length) (hcap : l.length ≤ cap) :
    Row w (if cap = lo then A else A.map (·.add lo)) (iv ((l.drop lo).take k)) := by
  have := h.cut lo (lo + k) cap (by omega) (by rw [iv_length]; exact hlo) (by rw [iv_length]; exact hcap)
  rw [show lo + k - lo = k by omega, ← iv_drop, ← iv_take] at this
  exact this
theorem Row.restI {w : World} {A : Option Addr} {l : List Int} (h : Row w A (iv l)) (lo cap : Nat) (hlo : lo ≤ l.length) (hcap : l.length ≤ cap) :
    Row w (if cap = lo then A else A.map (·.add lo)) (iv (l.drop lo)) := by
  have := h.cutI lo (l.length - lo) cap (by omega) hcap
  rw [List.take_of_length_le (by simp)] at this
  exact this

set_option maxHeartbeats 800000 in
theorem of_any (A B : Option Addr) (n m c d : Nat) (a b : List Int) (w : World) (hn : a.length = n) (hm : b.length = m) (hb : n ≤ 2147483648) (hb' : m ≤ 2147483648) (hc : n ≤ c) (hd : m ≤ d) (h1 : Row w A (iv a)) (h2 : Row w B (iv b)) :
    Calls Try.prog 9 #[.slice A n c, .slice B m d] w fun e w' => e = .returned (.tuple #[.int .i64 (pe a b : Int), .int .i64 (se a b : Int)]) ∧ ∃ q, w' = w.drewN q := by
  have hp1 : pe a b ≤ n := by have := pre_le_left a b; unfold pe; omega
  have hp2 : pe a b ≤ m := by have := pre_le_right a b; unfold pe; omega
  have HP : Hid (pre a b = pe a b) := rfl
  have HS : Hid (suf (a.drop (pe a b)) (b.drop (pe a b)) = se a b) := rfl
  have HN := Lib.hid hn
  have HM := Lib.hid hm
  clear hn hm
  generalize pe a b = p at *
  generalize se a b = s at *
  go_enter Try.func9, Try.ntmps9
  go_wp2_with fail
  refine (prefix_any A B n m c d a b w HN.out HM.out hb hb' h1 h2).mono ?_
  rintro e w1 ⟨rfl, q, hq⟩
  have r1 : Row w1 A (iv a) := by rw [hq]; exact h1
  have r2 : Row w1 B (iv b) := by rw [hq]; exact h2
  have HQ := Lib.hid hq
  clear hq h1 h2
  rw [HP.out]
  go_wp2_with fail
  go_quiet ((go_at_call 23; exact suffix_quiet _ _ _ _ _ _ _ (a.drop p) (b.drop p) w1 s (by rw [List.length_drop, HN.out]) (by rw [List.length_drop, HM.out]) (by omega) (by omega) (r1.restI p c (by rw [HN.out]; omega) (by rw [HN.out]; omega)) (r2.restI p d (by rw [HM.out]; omega) (by rw [HM.out]; omega)) HS.out))
  go_wp2_with fail
  all_goals (go_ret2; exact ⟨rfl, _, by rw [HQ.out, World.drewN_drewN]⟩)

theorem Try.infoInts : (Try.prog.info? 3).map (·.size) = some 1 := by kernel_rfl

set_option maxHeartbeats 400000 in
theorem copied_any (A : Option Addr) (n c : Nat) (l : List Int) (w : World) (hn : l.length = n) (hb : n ≤ 2147483648) (hr : Row w A (iv l)) :
    Calls Try.prog 26 #[.slice A n c] w (MadeI l w) := by
  obtain ⟨i0, hi, hz0, hz1, hz2⟩ := info_parts Try.infoInt
  subst hn
  go_enter Try.func26, Try.ntmps26
  go_wp2_with (at_make; refine wpList_make_full _ rfl _ _ 24 rfl w.heap.size 3 i0 (.int .i64 0) 1 Try.underlying24 hi hz0 hz1 .i64 .i64 _ _ l.length rfl rfl rfl rfl (by rw [hz2]; omega) (by unfold maxLen; omega) (Nat.le_refl _) ?_)
  intro w1 hown hg
  obtain ⟨cur, hh, hcl⟩ := own_heap hown
  have HH := Lib.hid hh
  have HC := Lib.hid hcl
  have hb1 : Below w.heap.size w w1 := (Below.refl _ _).grown hg (Nat.le_refl _) (fun k hk => by cases hk)
  have hr1 := hr.below hb1
  clear hh hown hcl hg
  go_wp2_with (with_reducible refine wpList_copy_splice rfl (.tmp 7) (.tmp 8) 24 24 rfl 3 Try.underlying24 Try.infoInts (some ⟨w.heap.size, 0, none⟩) A l.length l.length l.length c rfl rfl w.heap.size 0 cur 3 HH.out (iv l) (by rw [iv_length]; simp) (fun hp => ⟨rfl, ?_⟩) (by rw [iv_length, HC.out]; omega) (iv_one l) w.heap.size w hb1 (Nat.le_refl _) ?_)
  · obtain ⟨g, o, e, hc⟩ := hr1 (by intro e; rw [e] at hp; simp at hp)
    exact ⟨_, e, fun j v hv => by rw [Addr.add_lit]; exact hc j v hv⟩
  · intro w2 h2 hb2
    go_wp2_with fail
    go_ret
    refine ⟨_, rfl, ?_, hb2⟩
    have h3 := h2.out
    rw [splice_all _ _ (by rw [iv_length, HC.out])] at h3
    exact own_of_heap (Nat.le_refl _) (by unfold maxLen; omega) (iv_length l) h3

end Go.Proofs.Ytambidlenfnbiaa
