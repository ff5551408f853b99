/-
  Package mask over the landed code: New.
-/
import Derived.Test.YthmfolekohomiaaMk2
import Derived.Test.YthmfolekohomiaaRefI
import Derived.Deep.RegionWith
import Derived.Deep.RegionHeld3
namespace Go.Proofs.Ythmfolekohomiaa
open Go.RowKit Go.Maps

/-- The head of a round of New. -/
def NewRel (b : List Int) (w : World) (i : Value) (wr : World) : Prop :=
  ∃ (k : Nat) (f : Int → Value), k ≤ b.length ∧ i = .int .i64 k ∧ MaskM wr (w.heap.size + 2) w.heap.size b k f ∧ wr.heap[w.heap.size + 1]? = some (.cells #[.int .i64 (b.length : Int), .map (some w.heap.size)] 43 (0, 0)) ∧ Below w.heap.size w wr

theorem new_done {b : List Int} {w wr : World} {f : Int → Value} (h : MaskM wr (w.heap.size + 2) w.heap.size b b.length f) (hp : wr.heap[w.heap.size + 1]? = some (.cells #[.int .i64 (b.length : Int), .map (some w.heap.size)] 43 (0, 0))) (hb : Below w.heap.size w wr) :
    MskMade b w (.returned (.pointer (some ⟨w.heap.size + 1, 0, none⟩))) wr := by
  have hl := (Array.getElem?_eq_some_iff.1 hp).1
  refine ⟨_, rfl, ⟨_, w.heap.size, _, f, rfl, by omega, hl, by omega, by omega, hp, h, fun k g e => ?_⟩, hb⟩
  obtain ⟨ps, ho, _⟩ := h.rows k
  exact (ho.lt g e).2

theorem new_round {b : List Int} {w wr w1 w2 : World} {k : Nat} {f : Int → Value} (hk : k < b.length) (hB : Below w.heap.size w wr) (hp : wr.heap[w.heap.size + 1]? = some (.cells #[.int .i64 (b.length : Int), .map (some w.heap.size)] 43 (0, 0))) {x : Int} (hM0 : MaskM wr (w.heap.size + 2) w.heap.size b k f) (hg : wr.grownBy w1 (f x).ownBlock)
    (hg2 : w1.grownBy w2 (some w.heap.size)) {f' : Int → Value} (hM : MaskM w2 (w.heap.size + 2) w.heap.size b (k + 1) f') : NewRel b w (.int .i64 (k + 1 : Nat)) w2 := by
  have hl := (Array.getElem?_eq_some_iff.1 hp).1
  have hrow : ∀ g, (f x).ownBlock = some g → w.heap.size + 2 ≤ g := fun g e => by
    obtain ⟨ps, ho, _⟩ := hM0.rows x
    exact (ho.lt g e).1
  refine ⟨k + 1, f', by omega, rfl, hM, ?_, (hB.grown hg hB.size fun q hq => ?_).grown hg2 (Nat.le_trans hB.size hg.size) fun q hq => ?_⟩
  · have hs := hg.size
    rw [hg2.block _ (by omega) (by simp), hg.block _ hl (fun e => by have := hrow _ e.symm; omega)]
    exact hp
  · have := hrow q hq
    omega
  · cases hq
    exact Nat.le_refl _

theorem new_cell {b : List Int} {lo B q : Nat} {wr w1 : World} {k : Nat} {f : Int → Value} {x : Int} {n : Int} (hM0 : MaskM wr.drew lo B b k f) (hp : wr.heap[q]? = some (.cells #[.int .i64 n, .map (some B)] 43 (0, 0))) (hg : wr.drew.grownBy w1 (f x).ownBlock) (hq : q < lo := by omega) :
    w1.cell? ⟨q, 1, none⟩ = some (.map (some B)) := by
  have hl := (Array.getElem?_eq_some_iff.1 hp).1
  obtain ⟨ps, ho, _⟩ := hM0.rows x
  have h1 : w1.heap[q]? = wr.heap[q]? := hg.block q hl (fun e => by have := (ho.lt _ e.symm).1; omega)
  simp [World.cell?, h1, hp]

set_option maxRecDepth 100000 in
set_option maxHeartbeats 3200000 in
theorem new_any (A : Option Addr) (n c : Nat) (b : List Int) (w : World) (hn : b.length = n) (hb : n ≤ 1048576) (hr : Row w A (iv b)) (hw : ∀ x ∈ b, (Lit.int .i64 x).wf = true) :
    Calls Try.prog 7 #[.slice A n c] w (MskMade b w) := by
  subst hn
  have hmm := @run_makeMap Try.prog
  go_enter Try.func7, Try.ntmps7
  go_wp2_with fail
  have hs0 := MaskM.start w (.cells #[.int .i64 (b.length : Int), .map (some w.heap.size)] 43) b
  have hp0 : ((w.alloc (.map #[] 0)).alloc (.cells #[.int .i64 (b.length : Int), .map (some w.heap.size)] 43)).heap[w.heap.size + 1]? = some (.cells #[.int .i64 (b.length : Int), .map (some w.heap.size)] 43 (0, 0)) := by
    have := (MapKept.heap_alloc (w.alloc (.map #[] 0)) (.cells #[.int .i64 (b.length : Int), .map (some w.heap.size)] 43)).1
    simpa using this
  have hb0 := below_alloc2 w (.map #[] 0) (.cells #[.int .i64 (b.length : Int), .map (some w.heap.size)] 43)
  generalize (w.alloc (.map #[] 0)).alloc (.cells #[.int .i64 (b.length : Int), .map (some w.heap.size)] 43) = w0 at *
  go_loopw [13] (fun i wr => NewRel b w i wr) (fun i _ => b.length - (RowKit.intOf i).toNat)
  case atStart => exact ⟨0, _, Nat.zero_le _, rfl, hs0, hp0, hb0⟩
  case round =>
    clear hs0 hp0 hb0
    obtain ⟨k, f, hk, rfl, hM, hp, hB⟩ := hrel
    by_cases hlt : k < b.length
    · obtain ⟨g, o, rfl, hc⟩ := (hr.below hB).int hlt
      have HX : Hid (b[k]? = some b[k]) := List.getElem?_eq_getElem hlt
      have hx := hw b[k] (List.getElem_mem _)
      clear hr hw
      generalize b[k] = x at *
      have hlook := MaskM.look hM.drew hx
      have hcp : wr.cell? ⟨w.heap.size + 1, 1, none⟩ = some (.map (some w.heap.size)) := by simp [World.cell?, hp]
      have HM := Lib.hid hM
      have HP := Lib.hid hp
      have HB := Lib.hid hB
      have hks : k ≤ 1048576 := by omega
      obtain ⟨ps, hown, hpp⟩ := hM.rows x
      have HW := Lib.hid (with_any ps (f x) _ k (w.heap.size + 2) (fun j => decide (b[j]? = some x)) wr.drew rfl hks (by have := (Array.getElem?_eq_some_iff.1 hp).1; show _ ≤ wr.heap.size; omega) (World.ownsRow.drew hown) hpp (by rw [HX.out]; simp))
      clear hM hp hB hown hpp
      go_wp2_with fail
      go_region_with (go_at_call 23; refine HW.out.mono ?_; rintro e w1 ⟨v', ps', rfl, own1, hp1, hg1, hl1⟩; obtain ⟨w2, hup, hM2, hg2⟩ := MaskM.put HM.out.drew (by unfold maxLen; omega) hx HX.out own1 hp1 hg1 hl1; have hcp1 : w1.cell? ⟨w.heap.size + 1, 1, none⟩ = some (.map (some w.heap.size)) := new_cell HM.out.drew HP.out hg1; have R := new_round hlt HB.out.drew HP.out HM.out.drew hg1 hg2 hM2; clear own1 hp1 hg1 hl1 hM2 hg2)
      all_goals (
        go_wp2_with fail
        go_roundw
        case rel => exact R
        case measure => simp [RowKit.intOf]; omega)
    · have hkb : k = b.length := by omega
      subst hkb
      have HF := Lib.hid (new_done hM hp hB)
      clear hM hp hB hr hw
      go_wp2_with fail
      go_ret
      exact HF.out

end Go.Proofs.Ythmfolekohomiaa
