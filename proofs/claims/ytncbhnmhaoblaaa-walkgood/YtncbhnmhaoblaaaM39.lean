/-
  Words and contracts that the proof leans on.
-/
import Derived.Test.YtncbhnmhaoblaaaM35
import Derived.Test.YtncbhnmhaoblaaaM37
import Derived.Test.YtncbhnmhaoblaaaM38
import Derived.Test.YtncbhnmhaoblaaaM11
import Derived.Laws.EntriesVeiled
namespace Go.Proofs.Ytncbhnmhaoblaaa
open Go.RowKit

set_option maxRecDepth 100000 in
theorem rowOf_zero (w : World) : Calls Try.prog 23 #[.int .i64 0] w fun e w' => e = .returned (.func (.func 34) #[] #[]) ∧ w' = w := by
  go_enter Try.func23, Try.ntmps23
  go_wp2_with fail
  go_ret
  exact ⟨rfl, rfl⟩
set_option maxRecDepth 100000 in
theorem rowOf_one (w : World) : Calls Try.prog 23 #[.int .i64 1] w fun e w' => e = .returned (.func (.func 35) #[] #[]) ∧ w' = w := by
  go_enter Try.func23, Try.ntmps23
  go_wp2_with fail
  go_ret
  exact ⟨rfl, rfl⟩
theorem row_hyyro : RowOK 34 := fun A B n k c d x y m w h1 h2 h3 h4 h5 h6 h7 h8 h9 h10 h11 => hrow_any A B n k c d x y m w h1 h2 h3 h4 h5 h6 h7 h8 h9 h10 h11
theorem row_croch : RowOK 35 := fun A B n k c d x y m w h1 h2 h3 h4 h5 h6 h7 h8 h9 h10 h11 => crow_any A B n k c d x y m w h1 h2 h3 h4 h5 h6 h7 h8 h9 h10 h11

/-- What Run leaves. -/
def WrMade (a b : List Int) (w : World) (e : Ending) (w' : World) : Prop :=
  ∃ v, e = .returned (.tuple #[v, .int .i64 (2 * stepsW (a.length : Int) (b.length : Int)), .int .i64 0]) ∧ w'.ownsRow w.heap.size 29 2 v (wayL a b a.length b.length).length (pv (wayL a b a.length b.length)) ∧ Below w.heap.size w w'
/-- What Run's drawn region reads. -/
def RnSWkH (P F : Nat) (A : Option Addr) (n c : Nat) (B : Option Addr) (m d p : Nat) (e : Int) (w : World) : Prop :=
  w.cell? ⟨P, 0, none⟩ = some (.func (.func F) #[] #[]) ∧ w.cell? ⟨P, 1, none⟩ = some (.slice A n c) ∧ w.cell? ⟨P, 2, none⟩ = some (.slice B m d) ∧ w.cell? ⟨P, 3, none⟩ = some (.pointer (some ⟨p, 0, none⟩)) ∧ w.cell? ⟨P, 4, none⟩ = some (.int .i64 e)
set_option maxRecDepth 100000 in
set_option maxHeartbeats 6400000 in
theorem wrun_core (kind : Int) (F : Nat) (eg : ∀ args w, (callFunc F args).run Try.prog w = .ok (.enter F args) w) (hF : RowOK F) (hR : ∀ w, Calls Try.prog 23 #[.int .i64 kind] w fun e w' => e = .returned (.func (.func F) #[] #[]) ∧ w' = w) (A B : Option Addr) (n m c d E : Nat) (e : Int) (a b : List Int) (w : World) (hn : a.length = n) (hm : b.length = m) (hb : n ≤ 1048576) (hb' : m ≤ 1048576) (hc : n ≤ c) (hE : e = (E : Int)) (he : 1 ≤ E) (hI : I64 e) (h1 : Row w A (iv a)) (h2 : Row w B (iv b)) (wa : ∀ x ∈ a, (Lit.int .i64 x).wf = true) (wb : ∀ x ∈ b, (Lit.int .i64 x).wf = true) :
    Calls Try.prog 8 #[.int .i64 kind, .slice A n c, .slice B m d, .int .i64 e] w (WrMade a b w) := by
  have hmx : Try.prog.follows .mixedOrders = true := by kernel_rfl
  have hk0 : keptI (n : Int) e = keptL E n := by subst hE; exact keptI_in hb he
  have hkl := keptI_length (n : Int) e
  have hkb := cntK_le (n : Int) e
  have he1 : ¬ (e < 1) := by omega
  have CN := Lib.hid (fun w h => new_any B m d b w hm hb' h wb)
  have CK := Lib.hid (fun w => wkept_any (n : Int) e w (i64_small (by omega)) hI)
  rw [hk0] at CK hkl
  obtain ⟨l, hl⟩ : ∃ l, keptL E n = l := ⟨_, rfl⟩
  rw [hl] at CK hkl
  obtain ⟨K, hK⟩ : ∃ K, cntK (n : Int) e = K := ⟨_, rfl⟩
  rw [hK] at hkl hkb
  have CD := Lib.hid (fun lo hi p D cK w hT hk => down_anyWkF F eg hF A B D n m c d p (wdsVc3 m) lo hi E K cK e a b l w hn hm hb hb' rfl hc hE he hl.symm hkl hT wa hk)
  have CB := Lib.hid (fun lo hi p D S cK cS w hT h2 hk hS => wback_any F eg hF A B D S n m c d p (wdsVc3 m) lo hi E K cK cS e a b l w hn hm hb hb' rfl hc hE he hl.symm hkl hT h2 wa hk hS)
  have CT := Lib.hid (fun w => hsteps_any (n : Int) (m : Int) w)
  have hst : 0 ≤ stepsW (n : Int) (m : Int) ∧ stepsW (n : Int) (m : Int) ≤ 17179869184 := by
    obtain ⟨N, W, X, _, _, _, hX, _, e2⟩ := stepsW_yes (n := (n : Int)) (m := (m : Int)) ⟨by omega, by omega, by omega, by omega⟩
    omega
  have HWl : Hid ((wayL a b n m).length ≤ 1048576) := by
    have h1 := (way_is a b _ n m rfl).2
    show _ ≤ _
    have h3 := lcs_le_left (a.take n) (b.take m)
    have h4 : px a b n m = lcs (a.take n) (b.take m) := rfl
    rw [List.length_take] at h3
    omega
  have HE : Hid (∀ v w', w'.ownsRow w.heap.size 29 2 v (wayL a b n m).length (pv (wayL a b n m)) → Below w.heap.size w w' → WrMade a b w (.returned (.tuple #[v, .int .i64 (2 * stepsW (n : Int) (m : Int)), .int .i64 0])) w') := fun v w' g1 g2 => ⟨v, by rw [hn, hm], by rw [hn, hm]; exact g1, g2⟩
  have HRb : Hid (∀ k j, rowsF m (alikeAt a b) (posK E n k) j = rowsF m (alikeAt a b) (posK E n k) j) := fun _ _ => rfl
  generalize stepsW (n : Int) (m : Int) = SW at *
  generalize wayL a b n m = WL at *
  have HR := Lib.hid hR
  have hnf : ∀ w, (binOp BinOp.eql 45 (Value.func (Fn.func F) #[] #[]) Value.nilFunc).run Try.prog w = .ok (.bool false) w := fun _ => by kernel_rfl
  unfold tbV at CD CB
  clear hF hn hm hb hb' hc hE he hI wa wb hk0 hl hK hR HRb
  go_enter Try.func8, Try.ntmps8
  go_wp2_with fail
  refine (HR.out w).mono ?_
  rintro x w0 ⟨rfl, rfl⟩
  clear HR
  go_wp2_with fail
  refine (CN.out _ h2).mono ?_
  rintro x w1 ⟨mv, rfl, hM, hb1⟩
  obtain ⟨p, rfl⟩ := mask_ptr hM
  have h11 := h1.below hb1
  have h21 := h2.below hb1
  clear CN h1 h2
  go_wp2_with fail
  have hT := tb_new F A n c B m d p e w1
  have hB2 := below_a1 w1 (.cells #[.func (.func F) #[] #[], .slice A n c, .slice B m d, .pointer (some ⟨p, 0, none⟩), .int .i64 e] 50)
  have hM2 := hM.below (Nat.le_refl _) hB2
  have h12 := h11.below hB2
  have h22 := h21.below hB2
  have hb2 := below_go hb1 hB2
  obtain ⟨lo, hlo⟩ : ∃ lo, w0.heap.size = lo := ⟨_, rfl⟩
  obtain ⟨hi, hhi⟩ : ∃ hi, w1.heap.size = hi := ⟨_, rfl⟩
  have hhi2 : hi ≤ (w1.alloc (.cells #[.func (.func F) #[] #[], .slice A n c, .slice B m d, .pointer (some ⟨p, 0, none⟩), .int .i64 e] 50)).heap.size := by rw [← hhi]; exact hB2.size
  rw [hlo] at hM2
  rw [hhi] at hM2
  have HHI := Lib.hid hhi
  clear hM h11 h21 hb1 hB2 hlo hhi
  generalize w1.alloc (.cells #[.func (.func F) #[] #[], .slice A n c, .slice B m d, .pointer (some ⟨p, 0, none⟩), .int .i64 e] 50) = w2 at *
  refine (CK.out w2).mono ?_
  rintro x w3 ⟨kv, rfl, ownk, hb3⟩
  rw [hkl] at ownk
  obtain ⟨D, cK, rfl, _, _, rk, _⟩ := own_slice ownk
  have hT3 := hT.below hb3
  have hTl := hT3.lt
  have hIn : TbIn lo hi p A a b w3.drew := ⟨Nat.le_trans hhi2 hb3.size, (hM2.below hhi2 hb3).keep fun _ _ _ => rfl, h12.below hb3.drew⟩
  have h23 : Row w3.drew B (iv b) := h22.below hb3.drew
  have HB3 := Lib.hid (below_go hb2 hb3)
  have rk' : Row w3.drew D (iv l) := rk
  have HS0 : Hid (RnSWkH w1.heap.size F A n c B m d p e w3.drew) := hT3.cells
  clear CK ownk rk hM2 h12 h22 hb2 hb3 hT hT3 hhi2
  go_wp2_with fail
  refine wp_region_held (S := RnSWkH w1.heap.size F A n c B m d p e) hmx ?_
  refine wpAnyH_take (i := 0) (v := ?v1) rfl (by kernel_rfl) (by kernel_rfl) (by kernel_rfl) (fun _ _ _ h => h) (.inl ⟨by kernel_rfl, ?y1⟩) HS0.out ?_
  case y1 =>
    rintro w' ⟨s0, s1, s2, s3, s4⟩
    go_simp
    first | done | with_reducible rfl | rfl
  try simp only [Act.put]
  refine wpAnyH_take (i := 1) (v := ?v2) rfl (by kernel_rfl) (by kernel_rfl) (by kernel_rfl) (fun _ _ _ h => h) (.inl ⟨by kernel_rfl, ?y2⟩) HS0.out ?_
  case y2 =>
    rintro w' ⟨s0, s1, s2, s3, s4⟩
    go_simp
    first | done | with_reducible rfl | rfl
  try simp only [Act.put]
  refine wpAnyH_take (i := 2) (v := ?v3) rfl (by kernel_rfl) (by kernel_rfl) (by kernel_rfl) (fun _ _ _ h => h) (.inl ⟨by kernel_rfl, ?y3⟩) HS0.out ?_
  case y3 =>
    rintro w' ⟨s0, s1, s2, s3, s4⟩
    go_simp
    first | done | with_reducible rfl | rfl
  try simp only [Act.put]
  refine wpAnyH_take (i := 3) (v := ?v4) rfl (by kernel_rfl) (by kernel_rfl) (by kernel_rfl) (fun _ _ _ h => h) (.inl ⟨by kernel_rfl, ?y4⟩) HS0.out ?_
  case y4 =>
    rintro w' ⟨s0, s1, s2, s3, s4⟩
    go_simp
    first | done | with_reducible rfl | rfl
  try simp only [Act.put]
  refine held_one (i := 4) (by kernel_rfl) rfl (by kernel_rfl) ?_
  unfold Oper.wp
  go_simp
  refine (CD.out lo hi p D cK w3.drew hIn rk').mono ?_
  rintro y w4 ⟨S, cS, rfl, _, _, hS, hb4⟩
  have HS4 : Hid (RnSWkH w1.heap.size F A n c B m d p e w4) := by
    obtain ⟨s0, s1, s2, s3, s4⟩ := HS0.out
    exact ⟨(hb4.cell (p := ⟨w1.heap.size, 0, none⟩) hTl).trans s0, (hb4.cell (p := ⟨w1.heap.size, 1, none⟩) hTl).trans s1, (hb4.cell (p := ⟨w1.heap.size, 2, none⟩) hTl).trans s2, (hb4.cell (p := ⟨w1.heap.size, 3, none⟩) hTl).trans s3, (hb4.cell (p := ⟨w1.heap.size, 4, none⟩) hTl).trans s4⟩
  have hTl4 : w1.heap.size < w4.heap.size := Nat.lt_of_lt_of_le hTl hb4.size
  have hIn4 := hIn.below hb4
  have h24 := h23.below hb4
  have rk4 := rk'.below hb4
  have HB4 := Lib.hid (HB3.out.drew.trans (hb4.mono HB3.out.size))
  clear hIn h23 rk' hb4 HS0 CD HB3
  refine ⟨HS4.out, ?_⟩
  try simp only [Act.put]
  refine held_one (i := 5) (by kernel_rfl) rfl (by kernel_rfl) ?_
  unfold Oper.wp
  go_simp
  refine (CB.out lo hi p D S cK cS w4 hIn4 h24 rk4 hS).mono ?_
  rintro y w5 ⟨lv, rfl, own5, hb5⟩
  have HS5 : Hid (RnSWkH w1.heap.size F A n c B m d p e w5) := by
    obtain ⟨s0, s1, s2, s3, s4⟩ := HS4.out
    exact ⟨(hb5.cell (p := ⟨w1.heap.size, 0, none⟩) hTl4).trans s0, (hb5.cell (p := ⟨w1.heap.size, 1, none⟩) hTl4).trans s1, (hb5.cell (p := ⟨w1.heap.size, 2, none⟩) hTl4).trans s2, (hb5.cell (p := ⟨w1.heap.size, 3, none⟩) hTl4).trans s3, (hb5.cell (p := ⟨w1.heap.size, 4, none⟩) hTl4).trans s4⟩
  have HB5 := Lib.hid (HB4.out.trans (hb5.mono HB4.out.size))
  have own5' := own_lowerS own5 HB4.out.size
  clear hIn4 h24 rk4 hb5 HS4 CB HB4 own5 hS
  refine ⟨HS5.out, ?_⟩
  try simp only [Act.put]
  refine wpAnyH_take (i := 6) (v := ?v5) rfl (by kernel_rfl) (by kernel_rfl) (by kernel_rfl) (fun _ _ _ h => h) (.inl ⟨by kernel_rfl, ?y5⟩) HS5.out ?_
  case y5 =>
    rintro w' ⟨s0, s1, s2, s3, s4⟩
    go_simp
    first | done | with_reducible rfl | rfl
  try simp only [Act.put]
  refine held_done (by kernel_rfl) ?_
  go_simp
  clear HS5
  rw [List.length_reverse] at own5'
  obtain ⟨LA, lc, rfl, _, _, _, _⟩ := own_sliceS own5'
  have CR := Lib.hid (rev_any w0.heap.size WL.length _ WL.reverse w5 (by simp) (by have := HWl.out; omega) own5')
  have HG := Lib.hid (fun q h => own5'.lt q h)
  clear own5'
  go_wp2_with fail
  refine CR.out.mono ?_
  rintro y w6 ⟨rfl, own6, hg6⟩
  rw [List.reverse_reverse] at own6
  have hb6 : Below w0.heap.size w0 w6 := HB5.out.grown hg6 HB5.out.size (fun q h => (HG.out q h).1)
  have HF := Lib.hid (HE.out _ _ own6 hb6)
  clear HE own6 hg6 hb6 HG CR HB5
  go_wp2_with fail
  refine (CT.out w6).mono ?_
  rintro y w7 ⟨rfl, rfl⟩
  go_wp2_with fail
  go_ret3
  exact HF.out

end Go.Proofs.Ytncbhnmhaoblaaa

namespace Go.Proofs.Ytncbhnmhaoblaaa
open Go.RowKit

theorem wrun_any (kind e : Int) (A B : Option Addr) (n m c d : Nat) (a b : List Int) (w : World) (hn : a.length = n) (hm : b.length = m) (hb : n ≤ 1048576) (hb' : m ≤ 1048576) (hc : n ≤ c) (hI : I64 e) (h1 : Row w A (iv a)) (h2 : Row w B (iv b)) (wa : ∀ x ∈ a, (Lit.int .i64 x).wf = true) (wb : ∀ x ∈ b, (Lit.int .i64 x).wf = true) (h : (kind = 0 ∨ kind = 1) ∧ 1 ≤ e) :
    Calls Try.prog 8 #[.int .i64 kind, .slice A n c, .slice B m d, .int .i64 e] w (WrMade a b w) := by
  obtain ⟨hk, he⟩ := h
  obtain ⟨E, rfl⟩ : ∃ E : Nat, e = (E : Int) := ⟨e.toNat, by omega⟩
  rcases hk with rfl | rfl
  · exact wrun_core 0 _ (enters_of Try.func34 (by kernel_rfl) rfl) row_hyyro rowOf_zero A B n m c d E _ a b w hn hm hb hb' hc rfl (by omega) hI h1 h2 wa wb
  · exact wrun_core 1 _ (enters_of Try.func35 (by kernel_rfl) rfl) row_croch rowOf_one A B n m c d E _ a b w hn hm hb hb' hc rfl (by omega) hI h1 h2 wa wb

end Go.Proofs.Ytncbhnmhaoblaaa
