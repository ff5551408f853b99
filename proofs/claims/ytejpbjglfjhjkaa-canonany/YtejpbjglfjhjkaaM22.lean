/-
  Words and contracts that the proof leans on.
-/
import Derived.Test.YtejpbjglfjhjkaaM21
import Derived.Test.YtejpbjglfjhjkaaM5
import Derived.Laws.ResultCell
import Derived.Test.YtejpbjglfjhjkaaM8
import Derived.Test.YtejpbjglfjhjkaaM10
import Derived.Test.YtejpbjglfjhjkaaM4
import Derived.Test.YtejpbjglfjhjkaaM13
namespace Go.Proofs.Ytejpbjglfjhjkaa
open Go.RowKit

set_option maxRecDepth 100000 in
theorem lof_any (A B : Option Addr) (n m c d : Nat) (a b : List Int) (w : World) (hn : a.length = n) (hm : b.length = m) (hb : n ≤ 1048576) (hb' : m ≤ 1048576) (hc : n ≤ c) (hd : m ≤ d) (h1 : Row w A (iv a)) (h2 : Row w B (iv b)) :
    Calls Try.prog 24 #[.slice A n c, .slice B m d] w (MadeP (lst a b) w) := by
  have EX := Lib.hid (extend_any n A B n m c d 0 0 a b [] (.slice none 0 0) w w hn hm (Nat.le_refl _) (by simpa using hb) (by omega) (by omega) hc hd h1 h2 (Below.refl _ _) (World.ownsRow_nil _ _ _ _))
  clear hn hm h1 h2
  go_enter Try.func24, Try.ntmps24
  go_wp2_with fail
  refine EX.out.mono ?_
  rintro e w1 ⟨v, rfl, h3, h4, _⟩
  rw [sh_zero, List.nil_append] at h3
  have HR : Hid (MadeP (lst a b) w (.returned v) w1) := ⟨v, rfl, h3, grown_belowOwnG h4 (Nat.le_refl _) (fun k e => by cases e)⟩
  clear h3 h4
  go_wp2_with fail
  go_ret
  exact HR.out

theorem BxP.block {w : World} {P : Nat} {x y : Int} (h : BxP w P (x, y)) : w.heap[P]? = some (.cells #[.int .i64 x, .int .i64 y] 28 (0, 0)) := by
  obtain ⟨c, hc, h1, h2⟩ := h
  rw [hc]
  congr 2
  apply Array.ext_getElem?
  intro i
  by_cases hi : i < 2
  · rw [h2 i hi]
    have : i = 0 ∨ i = 1 := by omega
    rcases this with rfl | rfl <;> rfl
  · rw [Array.getElem?_eq_none (by omega), Array.getElem?_eq_none (by simp; omega)]
end Go.Proofs.Ytejpbjglfjhjkaa

namespace Go.Proofs.Ytejpbjglfjhjkaa
open Go.RowKit

/-- Of. -/
def ofE (a b : List Int) (l : List Pr) : List Pr × Int := if goodB a b l = true then (if l.length < (lst a b).length then ([], 6) else (lst a b, 0)) else ([], 1)
theorem ofE_no {a b : List Int} {l : List Pr} (h : ¬ goodB a b l = true) : ofE a b l = ([], 1) := by unfold ofE; rw [if_neg h]
theorem ofE_short {a b : List Int} {l : List Pr} (h : goodB a b l = true) (hl : l.length < (lst a b).length) : ofE a b l = ([], 6) := by unfold ofE; rw [if_pos h, if_pos hl]
theorem ofE_yes {a b : List Int} {l : List Pr} (h : goodB a b l = true) (hl : ¬ l.length < (lst a b).length) : ofE a b l = (lst a b, 0) := by unfold ofE; rw [if_pos h, if_neg hl]

set_option maxRecDepth 100000 in
set_option maxHeartbeats 1600000 in
theorem ptop_any (A B C : Option Addr) (n m N c d e : Nat) (a b : List Int) (l : List Pr) (w : World) (hn : a.length = n) (hm : b.length = m) (hN : l.length = N) (hb : n ≤ 1048576) (hb' : m ≤ 1048576) (hbN : N ≤ 1048576) (h1 : Row w A (iv a)) (h2 : Row w B (iv b)) (h3 : Row w C (pv l)) :
    Calls Try.prog 10 #[.slice A n c, .slice B m d, .slice C N e] w (MadeE (topE a b l).1 (topE a b l).2 w) := by
  rw [top_lft]
  have PT := Lib.hid (pturn C N e l w hN hbN h3)
  have TL : (turnP l).length ≤ 1048576 := by rw [turn_length, hN]; exact hbN
  by_cases hg : goodB b a (turnP l) = true
  · have HE : Hid (lftE b a (turnP l) = (lft b a 0 (turnP l), 0)) := lftE_yes hg
    have XL : (lft b a 0 (turnP l)).length ≤ 1048576 := by rw [lft_length]; exact TL
    have PL := Lib.hid (fun (T : Option Addr) (ct : Nat) (w1 : World) g1 g2 g3 => pleft_any B A T m n (turnP l).length d c ct b a (turnP l) w1 hm hn rfl hb' hb TL g1 g2 g3)
    rw [HE.out] at PL ⊢
    simp only at PL ⊢
    generalize lft b a 0 (turnP l) = X at *
    generalize turnP l = tl at *
    clear hg HE TL hn hm hN hb hb' hbN h3
    go_enter Try.func10, Try.ntmps10
    go_wp2_with fail
    refine PT.out.mono ?_
    rintro e1 w1 ⟨v, rfl, ho, hB⟩
    obtain ⟨T, ct, rfl, _, _, r3, _⟩ := own_sliceS ho
    clear ho PT
    go_wp2_with fail
    refine (PL.out T ct w1 (h2.below hB) (h1.below hB) r3).mono ?_
    rintro e2 w2 ⟨v2, rfl, ho, hB2⟩
    obtain ⟨T2, ct2, rfl, _, _, r4, _⟩ := own_sliceS ho
    clear ho PL r3 h1 h2
    have bb := Lib.hid (below_go hB hB2)
    clear hB hB2
    go_wp2_with fail
    refine (pturn T2 X.length ct2 X w2 rfl XL r4).mono ?_
    rintro e3 w3 ⟨v3, rfl, ho, hB3⟩
    have R : MadeE (turnP X) 0 w (.returned (.tuple #[v3, .int .i64 0])) w3 := ⟨v3, rfl, own_lowerS ho bb.out.size, below_go bb.out hB3⟩
    clear ho hB3 r4 bb
    go_wp2_with fail
    go_ret2
    exact R
  · have HE : Hid (lftE b a (turnP l) = ([], 1)) := lftE_no hg
    have PL := Lib.hid (fun (T : Option Addr) (ct : Nat) (w1 : World) g1 g2 g3 => pleft_any B A T m n (turnP l).length d c ct b a (turnP l) w1 hm hn rfl hb' hb TL g1 g2 g3)
    rw [HE.out] at PL ⊢
    simp only at PL ⊢
    show Calls _ _ _ _ (MadeE [] 1 w)
    generalize turnP l = tl at *
    clear hg HE TL hn hm hN hb hb' hbN h3
    go_enter Try.func10, Try.ntmps10
    go_wp2_with fail
    refine PT.out.mono ?_
    rintro e1 w1 ⟨v, rfl, ho, hB⟩
    obtain ⟨T, ct, rfl, _, _, r3, _⟩ := own_sliceS ho
    clear ho PT
    go_wp2_with fail
    refine (PL.out T ct w1 (h2.below hB) (h1.below hB) r3).mono ?_
    rintro e2 w2 ⟨v2, rfl, ho, hB2⟩
    have R := Lib.hid (madeE_none 1 (below_go hB hB2))
    clear ho PL r3 h1 h2 hB hB2
    go_wp2_with fail
    go_ret2
    exact R.out

set_option maxRecDepth 100000 in
set_option maxHeartbeats 1600000 in
theorem pof_any (A B C : Option Addr) (n m N c d e : Nat) (a b : List Int) (l : List Pr) (w : World) (hn : a.length = n) (hm : b.length = m) (hN : l.length = N) (hb : n ≤ 1048576) (hb' : m ≤ 1048576) (hbN : N ≤ 1048576) (hc : n ≤ c) (hd : m ≤ d) (h1 : Row w A (iv a)) (h2 : Row w B (iv b)) (h3 : Row w C (pv l)) :
    Calls Try.prog 8 #[.slice A n c, .slice B m d, .slice C N e] w (MadeE (ofE a b l).1 (ofE a b l).2 w) := by
  have PG := Lib.hid (pgood A B C n m N c d e a b l w hn hm hN (by omega) h1 h2 h3)
  by_cases hg : goodB a b l = true
  · rw [hg] at PG
    have PO := Lib.hid (fun w1 g1 g2 => lof_any A B n m c d a b w1 hn hm hb hb' hc hd g1 g2)
    by_cases hl : l.length < (lst a b).length
    · rw [ofE_short hg hl]
      show Calls _ _ _ _ (MadeE [] 6 w)
      generalize lst a b = Z at *
      subst hN
      clear hg hn hm hb hb' hbN h3 hc hd
      go_enter Try.func8, Try.ntmps8
      go_wp2_with fail
      refine PG.out.mono ?_
      rintro e1 w1 ⟨rfl, hB⟩
      clear PG
      go_wp2_with fail
      refine (PO.out w1 (h1.below hB) (h2.below hB)).mono ?_
      rintro e2 w2 ⟨v2, rfl, ho, hB2⟩
      obtain ⟨T2, ct2, rfl, _, _, r4, _⟩ := own_sliceS ho
      have R := Lib.hid (madeE_none 6 (below_go hB hB2))
      clear ho PO r4 h1 h2 hB hB2
      go_wp2_with fail
      go_ret2
      exact R.out
    · rw [ofE_yes hg hl]
      show Calls _ _ _ _ (MadeE (lst a b) 0 w)
      generalize lst a b = Z at *
      subst hN
      clear hg hn hm hb hb' hbN h3 hc hd
      go_enter Try.func8, Try.ntmps8
      go_wp2_with fail
      refine PG.out.mono ?_
      rintro e1 w1 ⟨rfl, hB⟩
      clear PG
      go_wp2_with fail
      refine (PO.out w1 (h1.below hB) (h2.below hB)).mono ?_
      rintro e2 w2 ⟨v2, rfl, ho, hB2⟩
      obtain ⟨T2, ct2, rfl, _, _, r4, _⟩ := own_sliceS ho
      have R : Hid (MadeE Z 0 w (.returned (.tuple #[.slice T2 Z.length ct2, .int .i64 0])) w2) := ⟨_, rfl, own_lowerS ho hB.size, below_go hB hB2⟩
      clear ho PO r4 h1 h2 hB hB2
      go_wp2_with fail
      go_ret2
      exact R.out
  · rw [ofE_no hg]
    rw [Bool.eq_false_iff.2 hg] at PG
    show Calls _ _ _ _ (MadeE [] 1 w)
    clear hn hm hN h1 h2 h3 hg hb hb' hbN hc hd
    go_enter Try.func8, Try.ntmps8
    go_wp2_with fail
    refine PG.out.mono ?_
    rintro x w1 ⟨rfl, hB⟩
    clear PG
    have R := Lib.hid (madeE_none 1 hB)
    clear hB
    go_wp2_with fail
    go_ret2
    exact R.out

end Go.Proofs.Ytejpbjglfjhjkaa

namespace Go.Proofs.Ytejpbjglfjhjkaa
open Go.RowKit

theorem rleast_any (A B : Option Addr) (n m c d : Nat) (a b : List Int) (w : World) (hn : a.length = n) (hm : b.length = m) (hb : n ≤ 1048576) (hb' : m ≤ 1048576) (h1 : Row w A (iv a)) (h2 : Row w B (iv b)) :
    Calls Try.prog 17 #[.slice A n c, .slice B m d] w (MadeP (lst a b) w) := by
  refine (least_any A B n m c d a b w hn hm hb hb' h1 h2).mono ?_
  rintro e w' ⟨v, l, i, j, rfl, hch, hl, hv, hB⟩
  rw [chain_end hch hl] at hv
  exact ⟨v, rfl, hv, hB⟩

end Go.Proofs.Ytejpbjglfjhjkaa

namespace Go.Proofs.Ytejpbjglfjhjkaa
open Go.RowKit

end Go.Proofs.Ytejpbjglfjhjkaa
