/-
  Contract of package grid's table: rows of noughts.
-/
import Derived.Test.YtnocjkpjihpphaaGrP
namespace Go.Proofs.Ytnocjkpjihpphaa
open Go.RowKit

/-- A table in memory: its rows lie in the blocks blk. -/
def Tab (f : Nat → Nat → Int) (n m T : Nat) (blk : Nat → Nat) (w : World) : Prop :=
  w.rowIs T 22 (n + 1) (fun r => .slice (some ⟨blk r, 0, none⟩) (m + 1) (m + 1)) ∧ ∀ r, r ≤ n → IsRow w (blk r) (m + 1) (f r)
theorem Tab.congr {f f' : Nat → Nat → Int} {n m T : Nat} {blk : Nat → Nat} {w : World} (h : Tab f n m T blk w) (e : ∀ r, r ≤ n → ∀ c, c ≤ m → f r c = f' r c) : Tab f' n m T blk w :=
  ⟨h.1, fun r hr => World.rowIs.congr (h.2 r hr) fun c hc => by rw [e r hr c (by omega)]⟩
theorem Tab.grown {f : Nat → Nat → Int} {n m T r0 : Nat} {blk : Nat → Nat} {w w' : World} {F : Nat → Int} (h : Tab f n m T blk w) (hg : w.grownBy w' (some (blk r0))) (hT : T ≠ blk r0) (hne : ∀ r, r ≤ n → r ≠ r0 → blk r ≠ blk r0) (hr : IsRow w' (blk r0) (m + 1) F) : Tab (fun r c => if r = r0 then F c else f r c) n m T blk w' := by
  refine ⟨rowIs_grown h.1 hg (fun e => hT (by injection e)), fun r hr' => ?_⟩
  by_cases e : r = r0
  · subst e
    simpa using hr
  · have := rowIs_grown (h.2 r hr') hg (fun e' => hne r hr' e (by injection e'))
    show w'.rowIs _ _ _ (fun c => .int .i64 (if r = r0 then F c else f r c))
    simpa [e] using this
theorem Tab.below {f : Nat → Nat → Int} {n m T : Nat} {blk : Nat → Nat} {w w' : World} (h : Tab f n m T blk w) (hb : Below w.heap.size w w') : Tab f n m T blk w' :=
  ⟨h.1.of_block (hb.block _ h.1.lt), fun r hr => (h.2 r hr).of_block (hb.block _ (World.rowIs.lt (h.2 r hr)))⟩
theorem Tab.drew {f : Nat → Nat → Int} {n m T : Nat} {blk : Nat → Nat} {w : World} (h : Tab f n m T blk w) : Tab f n m T blk w.drew := h

/-- What table leaves. -/
def TbMade (n m : Nat) (w : World) (e : Ending) (w' : World) : Prop :=
  e = .returned (.slice (some ⟨w.heap.size, 0, none⟩) (n + 1) (n + 1)) ∧ Tab (fun _ _ => 0) n m w.heap.size (fun r => w.heap.size + 1 + r) w' ∧ Below w.heap.size w w' ∧ w'.heap.size = w.heap.size + 1 + (n + 1)
def TbRel (n m T k : Nat) (wr : World) : Prop :=
  wr.rowIs T 22 (n + 1) (fun r => if r < k then .slice (some ⟨T + 1 + r, 0, none⟩) (m + 1) (m + 1) else .slice none 0 0) ∧ (∀ r, r < k → IsRow wr (T + 1 + r) (m + 1) (fun _ => 0)) ∧ wr.heap.size = T + 1 + k
theorem tb_start (n m : Nat) (w : World) : TbRel n m w.heap.size 0 (w.alloc (.cells (madeCells #[.slice none 0 0] (n + 1)) 22)) :=
  ⟨(World.rowIs_made w _ _ _).congr fun i _ => by simp, fun r h => by omega, by simp⟩
theorem tb_step {n m T k : Nat} {wr : World} (h : TbRel n m T k wr) : TbRel n m T (k + 1) ((wr.alloc (.cells (madeCells #[.int .i64 0] (m + 1)) 3)).setCell ⟨T, k, none⟩ (.slice (some ⟨T + 1 + k, 0, none⟩) (m + 1) (m + 1))) := by
  obtain ⟨h1, h2, h3⟩ := h
  refine ⟨((h1.alloc _).set k _).congr fun i hi => ?_, fun r hr => ?_, by simp [h3]; omega⟩
  · by_cases e : i = k
    · subst e
      rw [if_pos rfl, if_pos (by omega)]
    · rw [if_neg e]
      by_cases g : i < k
      · rw [if_pos g, if_pos (by omega)]
      · rw [if_neg g, if_neg (by omega)]
  · by_cases e : r = k
    · subst e
      have := World.rowIs_made wr (.int .i64 0) (m + 1) 3
      rw [h3] at this
      exact this.setOther (by show T + 1 + r ≠ T; omega) _
    · exact World.rowIs.setOther (World.rowIs.alloc (h2 r (by omega)) _) (by show T + 1 + r ≠ T; omega) _
theorem tb_done {n m T : Nat} {wr : World} (h : TbRel n m T (n + 1) wr) : Tab (fun _ _ => 0) n m T (fun r => T + 1 + r) wr :=
  ⟨h.1.congr fun i hi => by rw [if_pos hi], fun r hr => h.2.1 r (by omega)⟩

end Go.Proofs.Ytnocjkpjihpphaa
