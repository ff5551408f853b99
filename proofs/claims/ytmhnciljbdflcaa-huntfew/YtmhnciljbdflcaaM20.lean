/-
  Words and contracts that the proof leans on.
-/
import Derived.Test.YtmhnciljbdflcaaM8
import Derived.Test.YtmhnciljbdflcaaM19
import Derived.Maps.Own
import Derived.Maps.OwnOps
import Derived.Maps.OwnSet
import Derived.Lib.SlKeysI
namespace Go.Proofs.Ytmhnciljbdflcaa
open Go.RowKit Go.Maps

/-- An element of the map as it stands. -/
def heldR (v : Value) : Option (DataW Value × List MemPlace) := some (.held v, [])
theorem klaw : Keyed Try.prog 3 := int_keyed Try.underlying3
theorem zeroI64 (w : World) : (zeroValue 2).run Try.prog w = .ok (.int .i64 0) w := by kernel_rfl

/-- Block B is a map: at each number how often it is among the first J of b. -/
def CntM (w : World) (B : Nat) (b : List Int) (J : Nat) : Prop :=
  ∃ D : DataW Value, w.ownsMap Try.prog 3 heldR B J D ∧ ∀ k, D.atKey (.int .i64 k) (.held (.int .i64 0)) = .held (.int .i64 ((b.take J).count k : Nat))
theorem CntM.start (w : World) (b : List Int) : CntM (w.alloc (.map #[] 0)) w.heap.size b 0 := ⟨.map [], World.ownsMap_made w _ _ _, fun k => by rw [List.take_zero]; rfl⟩
theorem CntM.drew {w : World} {B J : Nat} {b : List Int} (h : CntM w B b J) : CntM w.drew B b J := h
theorem CntM.drewN {w : World} {B J : Nat} {b : List Int} (h : CntM w B b J) (q : Nat) : CntM (w.drewN q) B b J := h
theorem CntM.look {w : World} {B J : Nat} {b : List Int} (h : CntM w B b J) {k : Int} (hk : (Lit.int .i64 k).wf = true) :
    (Instr.lookup 42 (.map (some B)) (.int .i64 k) false).run Try.prog w = .ok (.int .i64 ((b.take J).count k : Nat)) w := by
  obtain ⟨D, hD, hat⟩ := h
  obtain ⟨v, ps, hrun, hv⟩ := hD.lookup klaw Try.underlying42 (zeroI64 w) (zd := .held (.int .i64 0)) (zp := []) rfl (keyOf_int_mk Try.underlying3 hk)
  rw [hat k] at hv
  simp only [heldR, Option.some.injEq, Prod.mk.injEq, DataW.held.injEq] at hv
  rw [hrun, hv.1]
theorem CntM.put {w : World} {B J : Nat} {b : List Int} (h : CntM w B b J) {k : Int} (hJ : J < maxLen) (hk : (Lit.int .i64 k).wf = true) (hb : b[J]? = some k) :
    ∃ w2, (Instr.mapUpdate 42 (.map (some B)) (.int .i64 k) (.int .i64 (((b.take J).count k : Nat) + 1 : Int))).run Try.prog w = .ok () w2 ∧ CntM w2 B b (J + 1) ∧ w.grownBy w2 (some B) := by
  obtain ⟨D, hD, hat⟩ := h
  obtain ⟨w2, hrun, hD2, hg2⟩ := hD.update klaw Try.underlying42 hJ (keyOf_int_mk Try.underlying3 hk) (d := .held (.int .i64 (((b.take J).count k : Nat) + 1 : Int))) (ps := []) rfl
  refine ⟨w2, hrun, ⟨D.put (.int .i64 k) (.held (.int .i64 (((b.take J).count k : Nat) + 1 : Int))), hD2, fun i => ?_⟩, hg2⟩
  by_cases e : i = k
  · subst e
    rw [atKey_put_same hD.isMap (by trivial), count_step hb, if_pos rfl]
    rfl
  · rw [atKey_put_other (fun e' => e (by injection e')), hat i, count_step hb, if_neg e, Nat.add_zero]
theorem CntM.lt {w : World} {B J : Nat} {b : List Int} (h : CntM w B b J) : B < w.heap.size := by
  obtain ⟨D, hD, _⟩ := h
  exact hD.lt

/-- The heads of the rounds. -/
def CtRel (b : List Int) (w : World) (i : Value) (wr : World) : Prop := ∃ k : Nat, k ≤ b.length ∧ i = .int .i64 (k : Int) ∧ CntM wr w.heap.size b k ∧ Below w.heap.size w wr
def HtRel (a b : List Int) (w : World) (n i : Value) (wr : World) : Prop :=
  ∃ k : Nat, k ≤ a.length ∧ i = .int .i64 (k : Int) ∧ n = .int .i64 (alike (a.take k) b : Nat) ∧ CntM wr w.heap.size b b.length ∧ Below w.heap.size w wr

set_option maxRecDepth 100000 in
set_option maxHeartbeats 1600000 in
theorem hits_any (A B : Option Addr) (n m c d : Nat) (a b : List Int) (w : World) (hn : a.length = n) (hm : b.length = m) (hb : n ≤ 1048576) (hb' : m ≤ 1048576) (h1 : Row w A (iv a)) (h2 : Row w B (iv b)) (wa : ∀ x ∈ a, (Lit.int .i64 x).wf = true) (wb : ∀ x ∈ b, (Lit.int .i64 x).wf = true) :
    Calls Try.prog 11 #[.slice A n c, .slice B m d] w fun e w' => e = .returned (.int .i64 (alike a b : Nat)) ∧ Below w.heap.size w w' := by
  subst hn
  subst hm
  have hmm := @run_makeMap Try.prog
  have hs0 := CntM.start w b
  have hb0 := below_a1 w (.map #[] 0)
  have HE : Hid (∀ wr, CntM wr w.heap.size b b.length → Below w.heap.size w wr → HtRel a b w (.int .i64 0) (.int .i64 0) wr) := fun wr hC hB => ⟨0, Nat.zero_le _, rfl, by rw [List.take_zero]; rfl, hC, hB⟩
  go_enter Try.func11, Try.ntmps11
  go_wp2_with fail
  generalize hw0 : w.alloc (.map #[] 0) = w0 at *
  clear hw0
  go_loopw [14] (fun i wr => CtRel b w i wr) (fun i _ => b.length - (RowKit.intOf i).toNat)
  case atStart => exact ⟨0, Nat.zero_le _, rfl, hs0, hb0⟩
  case round =>
    clear hs0 hb0
    obtain ⟨k, hk, rfl, hM, hB⟩ := hrel
    by_cases hlt : k < b.length
    · obtain ⟨g, o, rfl, hc⟩ := (h2.below hB).int hlt
      have HX : Hid (b[k]? = some b[k]) := List.getElem?_eq_getElem hlt
      have hx := wb b[k] (List.getElem_mem _)
      clear h1 h2 wa wb HE
      generalize b[k] = x at *
      have hlook := hM.look hx
      obtain ⟨w2, hup, hM2, hg2⟩ := hM.put (by unfold maxLen; omega) hx HX.out
      have hcl : (b.take k).count x ≤ k := Nat.le_trans List.count_le_length (by rw [List.length_take]; omega)
      have R : Hid (CtRel b w (.int .i64 ((k + 1 : Nat) : Int)) w2) := ⟨k + 1, by omega, rfl, hM2, hB.grown hg2 hB.size (fun r e => by cases e; exact Nat.le_refl _)⟩
      have ea : IntKind.i64.wrap ((((b.take k).count x : Nat) : Int) + 1) = (((b.take k).count x : Nat) : Int) + 1 := IntWalk.i64_in _ (by omega)
      generalize (b.take k).count x = C at *
      clear hM hM2 hg2 hB
      go_wp2_with fail
      go_roundw
      case rel => exact R.out
      case measure => first | omega | (simp [RowKit.intOf] <;> omega)
    · have hkb : k = b.length := by omega
      subst hkb
      have HS := Lib.hid (HE.out _ hM hB)
      clear HE hM hB h2 wb
      go_wp2_with fail
      go_loopw [8, 25] (fun n i wr => HtRel a b w n i wr) (fun _ i _ => a.length - (RowKit.intOf i).toNat)
      case atStart => exact HS.out
      case round =>
        clear HS
        obtain ⟨j, hj, rfl, rfl, hM, hB⟩ := hrel
        by_cases hlt : j < a.length
        · obtain ⟨g, o, rfl, hc⟩ := (h1.below hB).int hlt
          have HX : Hid (a[j]? = some a[j]) := List.getElem?_eq_getElem hlt
          have hx := wa a[j] (List.getElem_mem _)
          clear h1 wa
          generalize a[j] = x at *
          have hlook := hM.look hx
          rw [List.take_length] at hlook
          have hal := alike_le a b 1048576 hb' j
          have hcl : b.count x ≤ 1048576 := Nat.le_trans List.count_le_length hb'
          have R : Hid (HtRel a b w (.int .i64 ((alike (a.take j) b + b.count x : Nat) : Int)) (.int .i64 ((j + 1 : Nat) : Int)) wr) := ⟨j + 1, by omega, rfl, by rw [alike_step HX.out], hM, hB⟩
          have hal2 : alike (a.take j) b ≤ 1048576 * 1048576 := Nat.le_trans hal (Nat.mul_le_mul_right _ (by omega))
          have ea : IntKind.i64.wrap (((alike (a.take j) b : Nat) : Int) + (b.count x : Nat)) = ((alike (a.take j) b + b.count x : Nat) : Int) := by rw [IntWalk.i64_in _ (by omega)]; omega
          generalize b.count x = C at *
          generalize alike (a.take j) b = G at *
          clear hM hB hal
          go_wp2_with fail
          go_roundw
          case rel => exact R.out
          case measure => first | omega | (simp [RowKit.intOf] <;> omega)
        · have hja : j = a.length := by omega
          subst hja
          have HF : Hid (alike (a.take a.length) b = alike a b) := by show _ = _; rw [List.take_length]
          generalize alike (a.take a.length) b = G at *
          have HB := Lib.hid hB
          clear hM h1 wa
          go_wp2_with fail
          go_ret
          exact ⟨by rw [HF.out]; rfl, HB.out⟩

end Go.Proofs.Ytmhnciljbdflcaa
