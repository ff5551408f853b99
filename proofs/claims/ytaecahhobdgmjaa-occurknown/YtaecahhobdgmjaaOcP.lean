/-
  Package occur over the landed code: its contracts.
-/
import Derived.Test.YtaecahhobdgmjaaOc0
import Derived.Test.YtaecahhobdgmjaaLayS
namespace Go.Proofs.Ytaecahhobdgmjaa
open Go.RowKit

set_option maxHeartbeats 800000 in
theorem below_any (B : Option Addr) (m d : Nat) (b : List Int) (n : Int) (w : World) (hm : b.length = m) (hb : m ≤ 1048576) (hr : Row w B (iv b)) :
    Calls Try.prog 18 #[.slice B m d, .int .i64 n] w fun e w' => e = .returned (.bool (allN n b)) ∧ w = w' := by
  subst hm
  go_enter Try.func18, Try.ntmps18
  go_wp2_with fail
  go_loopw [9] (fun i wr => ∃ k : Nat, k ≤ b.length ∧ i = .int .i64 k ∧ w = wr ∧ Hid (allN n (b.take k) = true)) (fun i _ => b.length - (intOf i).toNat)
  case atStart => exact ⟨0, Nat.zero_le _, rfl, rfl, by show _ = _; simp [allN]⟩
  case round =>
    obtain ⟨k, hk, rfl, rfl, hkk⟩ := hrel
    by_cases hlt : k < b.length
    · obtain ⟨g, o, rfl, hc⟩ := hr.int hlt
      have HX : Hid (b[k]? = some b[k]) := List.getElem?_eq_getElem hlt
      generalize b[k] = x at *
      clear hr
      have HR := Lib.hid (fun h => allN_snoc (n := n) hkk.out HX.out h)
      have HS := Lib.hid (fun h => allN_no (n := n) HX.out h)
      clear hkk HX
      go_wp2_with fail
      case roundEnd =>
        go_roundw
        case rel => exact ⟨k + 1, by omega, by go_num, by first | trivial | rfl, HR.out (by omega)⟩
        case measure => simp [intOf]; omega
      all_goals (go_ret; exact ⟨by rw [HS.out (by omega)]; rfl, rfl⟩)
    · have HA := Lib.hid (allN_end hkk.out (by omega))
      clear hkk
      go_wp2_with fail
      go_ret
      exact ⟨by rw [HA.out]; rfl, rfl⟩

/-- append(v, x...) at a place, and where the row then lies. -/
theorem append_at {P : Program} {w : World} {ops : Array Oper} {rest : List Oper} {o : Oper} {a : Act} {Q : Exit → Act → World → Prop} (hw : Region.wanted o (yielded ops a.tmps) = true) (s x : Operand) (t : TypeId)
    (ho : o.op = .call { callee := .builtin .append, args := #[s, x], argTypes := #[t, t] })
    (base : Nat) (e : TypeId) (i : TypeInfo) (z : Value) (size bytes : Nat) (ht : P.underlying t = some (.slice e)) (hi : P.info? e = some i) (hz : i.zero = some z) (hsize : i.size = size) (hby : i.bytes = bytes) (hzs : z.cells.size = size) (hsz : 0 < size)
    (v : Value) (n : Nat) (xs : List Value) (hs : a.eval s = v) (hown : w.ownsRow base e size v n xs)
    (ad : Addr) (m c : Nat) (news : List Value) (hx : a.eval x = .slice (some ad) m c) (hl : news.length = m * size) (hnews : ∀ j u, news[j]? = some u → w.cell? (ad.add j) = some u) (h1 : ∀ u ∈ news, u.oneCell' = true)
    (h63 : n + m ≤ maxLen) (hbytes : (n + m) * bytes ≤ 140737488355328) (hbase : base ≤ w.heap.size)
    (h : ∀ v' w', w'.ownsRow base e size v' (n + m) (xs ++ news) → w.grownBy w' v.ownBlock → (v'.ownBlock = v.ownBlock ∨ v'.ownBlock = some w.heap.size) → wpList P ops Q rest (a.put o.dst v') w') : wpList P ops Q (o :: rest) a w := by
  refine wpList_want hw fun K hK => ?_
  obtain ⟨v', w', hr, h2, h3, _, h5⟩ := run_append_own_at (P := P) w base t o.type e i z size bytes ht hi hz hsize hby hzs hsz v n xs hown ad m c news hl hnews h1 h63 hbytes hbase
  unfold Oper.wp execOp
  simp only [ho, resolve, invoke, builtin, Sem.run_bind, Sem.run_pure, Result.andThen_ok, List.map_toArray, List.map_cons, List.map_nil, hs, hx, hr]
  exact hK _ _ (h v' w' h2 h3 h5)

set_option maxRecDepth 100000 in
set_option maxHeartbeats 3200000 in
theorem ofOK : OfOK := by
  intro n B m d b w hI hm hb hd hdm hr
  subst hm
  obtain ⟨i0, hi, hz0, hz1, hz2⟩ := info_parts Try.infoInt
  obtain ⟨j0, ji, jz0, jz1, jz2⟩ := info_parts Try.infoIntsP
  by_cases hn : 0 ≤ n ∧ n ≤ 1048576
  · obtain ⟨hn0, hn1⟩ := hn
    obtain ⟨n, rfl⟩ := Int.eq_ofNat_of_zero_le hn0
    have hn2 : n ≤ 1048576 := by omega
    have z1 : decide ((n : Int) < 0) = false := by simp
    have z2 : decide ((1048576 : Int) < (n : Int)) = false := by simp; omega
    have z3 : decide (1048576 < n) = false := by simp; omega
    have hB := below_any B _ d b n w rfl hb hr
    by_cases hal : allN n b = true
    · rw [hal] at hB
      have HA := Lib.hid hal
      have HG : Hid (fitsN n b = true) := by show _ = _; unfold fitsN; rw [hal, decide_eq_true ⟨hn0, hn1⟩, Bool.true_and]
      clear hn0 hal
      go_enter Try.func8, Try.ntmps8
      go_wp2_with fail
      refine hB.mono ?_
      rintro e w1 ⟨rfl, rfl⟩
      clear hB
      go_wp2_with (at_make; refine wpList_make_row _ rfl _ _ 22 rfl 26 j0 (.slice none 0 0) Try.underlying22 ji jz0 jz1 rfl .i64 .i64 n rfl rfl (by rw [jz2]; omega) (by omega) ?_)
      have hT := gro_start w n
      have hB0 : Below w.heap.size w (w.alloc (.cells (madeCells #[.slice none 0 0] n) 26)) := (Below.refl _ _).alloc (Nat.le_refl _) _
      generalize w.alloc (.cells (madeCells #[.slice none 0 0] n) 26) = w0 at *
      go_wp2_with fail
      go_loopw [25] (fun i wr => PlcRel b n w i wr) (fun i _ => b.length - (intOf i).toNat)
      case atStart => exact ⟨0, _, Nat.zero_le _, rfl, hT.congr fun i _ => (plcT_zero b i).symm, hB0⟩
      case round =>
        clear hT hB0
        obtain ⟨k, F, hk, rfl, hG, hB⟩ := hrel
        by_cases hlt : k < b.length
        · obtain ⟨g, o, rfl, hc0⟩ := hr.int hlt
          have hgT : g < w.heap.size := World.block_lt_of_cell? _ _ hc0
          have hc : wr.cell? ⟨g, o + k, none⟩ = some (.int .i64 b[k]) := (hB.cell (p := ⟨g, o + k, none⟩) hgT).trans hc0
          have HX : Hid (b[k]? = some b[k]) := List.getElem?_eq_getElem hlt
          clear hc0
          generalize b[k] = x at *
          have hx := allN_at HA.out HX.out
          obtain ⟨x, rfl⟩ := Int.eq_ofNat_of_zero_le hx.1
          have hxn : x < n := by omega
          clear hr hx
          have hsz := hB.size
          have hTl := hG.lt
          have hcT : wr.cell? ⟨w.heap.size, x, none⟩ = some (F x) := hG.1.cell hxn
          have hcT1 : ∀ o', (wr.alloc o').cell? ⟨w.heap.size, x, none⟩ = some (F x) := fun o' => (hG.1.alloc o').cell hxn
          have hown := hG.2.1 x hxn
          have hlen := plcT_length b k x
          have HGG := Lib.hid hG
          have HBB := Lib.hid hB
          clear hG hB
          go_wp2_with (at_builtin; refine append_at rfl (.tmp 35) (.tmp 37) 26 rfl (w.heap.size + 1) 3 i0 (.int .i64 0) 1 8 Try.underlying26 hi hz0 hz1 hz2 rfl (by decide) _ _ _ rfl (hown.alloc _) ⟨wr.heap.size, 0, none⟩ 1 1 [.int .i64 (k : Int)] rfl rfl (cell_one_new wr _ _) (one_int _ _) (by unfold maxLen; omega) (by omega) (by simp; omega) ?_)
          intro v' w2 own2 g2 a2
          obtain ⟨t2, f2, r2⟩ := plc_facts (HGG.out.alloc _) hxn g2
          clear r2
          obtain ⟨A2, d2, rfl, _, _, _, _⟩ := own_slice own2
          have R := plc_round hlt hxn HX.out (HGG.out.alloc _) rfl own2 g2 (a2.imp id fun h => by rw [h]; simp) (HBB.out.alloc hsz _)
          clear own2 g2 a2 hcT1 hcT hc hown
          go_wp2_with fail
          go_roundw
          case rel => exact R
          case measure => simp [intOf]; omega
        · have hkl : k = b.length := by omega
          subst hkl
          have HF := Lib.hid (places_yes HG.out (by unfold maxLen; omega) hG hB)
          clear hG hB
          go_wp2_with fail
          go_ret2
          exact HF.out
    · have ha : allN n b = false := by simpa using hal
      rw [ha] at hB
      have HF := Lib.hid (places_no (n := n) (b := b) (w := w) (by unfold fitsN; rw [ha, Bool.and_false]) (Below.refl w.heap.size w))
      clear hn0 hal ha hr
      go_enter Try.func8, Try.ntmps8
      go_wp2_with fail
      refine hB.mono ?_
      rintro e w1 ⟨rfl, rfl⟩
      clear hB
      go_wp2_with fail
      go_ret2
      exact HF.out
  · have HF := Lib.hid (places_no (n := n) (b := b) (w := w) (by unfold fitsN; rw [decide_eq_false hn, Bool.false_and]) (Below.refl w.heap.size w))
    clear hr
    by_cases h0 : n < 0
    · go_enter Try.func8, Try.ntmps8
      go_wp2_with fail
      go_ret2
      exact HF.out
    · have h1 : 1048576 < n := by omega
      go_enter Try.func8, Try.ntmps8
      go_wp2_with fail
      go_ret2
      exact HF.out

end Go.Proofs.Ytaecahhobdgmjaa
