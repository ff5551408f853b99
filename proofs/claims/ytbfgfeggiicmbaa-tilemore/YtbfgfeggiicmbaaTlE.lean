/-
  Package tile: sync.Once, not yet done and done.
-/
import Derived.Test.YtbfgfeggiicmbaaTlD
import Derived.Tactics2
import Derived.Defers
import Derived.Laws.Pointers
import Derived.Laws.LoneSync
import Derived.RegionTactic
import Derived.RegionCalls
import Derived.ChangeAlike
import Derived.Laws.NewBlocks
namespace Go.Proofs.Ytbfgfeggiicmbaa
open Go.RowKit

theorem disable (w : World) : (callFunc 34 #[]).run Try.prog w = .ok (.value (.tuple #[])) w := run_call_mark0 Try.func34 (by kernel_rfl) (by kernel_rfl) (by kernel_rfl) .disable (by kernel_rfl) w
theorem enable (w : World) : (callFunc 36 #[]).run Try.prog w = .ok (.value (.tuple #[])) w := run_call_mark0 Try.func36 (by kernel_rfl) (by kernel_rfl) (by kernel_rfl) .enable (by kernel_rfl) w
theorem acquire (a : Addr) (w : World) : (callFunc 37 #[.pointer (some a)]).run Try.prog w = .ok (.value (.tuple #[])) w := run_call_marked Try.func37 (by kernel_rfl) (by kernel_rfl) (by kernel_rfl) .acquire (by kernel_rfl) a w
theorem releaseMerge (a : Addr) (w : World) : (callFunc 39 #[.pointer (some a)]).run Try.prog w = .ok (.value (.tuple #[])) w := run_call_marked Try.func39 (by kernel_rfl) (by kernel_rfl) (by kernel_rfl) .releaseMerge (by kernel_rfl) a w

theorem store_deferred (a : Addr) (x : Value) (u : FrameMode) (w : World) (hc : w.cell? a = some x) (hz : w.frozen? a = false) :
    CallsD Try.prog 28 #[.pointer (some a), .bool true] u w fun e u' w' => u' = u ∧ (e = .returned (.tuple #[]) ∧ w' = w.drew.setCell a (.int .u32 1)) := by
  have hc' : w.drew.cell? a = some x := by go_simp
  have hz' : w.drew.frozen? a = false := by go_simp
  have hst := run_call_store (P := Try.prog) Try.func32 (by kernel_rfl) (by kernel_rfl) (by kernel_rfl) (by kernel_rfl) (k := .u32) (y := 1) hc' hz'
  go_enter_d Try.func28, Try.ntmps28
  go_wp2
  go_region_calls
  all_goals (go_end0; exact ⟨rfl, rfl⟩)

theorem unlock_deferred (a : Addr) (u : FrameMode) (w : World) (hc : w.cell? a = some (.int .i32 1)) (hz : w.frozen? a = false) :
    CallsD Try.prog 27 #[.pointer (some a)] u w fun e u' w' => u' = u ∧ (e = .returned (.tuple #[]) ∧ w' = w.setCell a (.int .i32 0)) := by
  have hd := disable
  have he := enable
  have hr := releaseMerge
  have hadd := run_call_add (P := Try.prog) Try.func40 (by kernel_rfl) (by kernel_rfl) (by kernel_rfl) .i32 (by kernel_rfl) (y := -1) (s := 0) hc hz (by simp [go_sem]; rfl)
  have hcv := run_convert_to_unsafe (P := Try.prog) (src := 73) (dst := 77) Try.underlying73 Try.underlying77 (by kernel_rfl) hc
  go_enter_d Try.func27, Try.ntmps27
  go_wp2
  go_end0
  go_wp2
  go_end0
  exact ⟨rfl, rfl⟩

theorem lock_free (a : Addr) (w : World) (hc : w.cell? a = some (.int .i32 0)) (hz : w.frozen? a = false) :
    Calls Try.prog 26 #[.pointer (some a)] w fun e w' => e = .returned (.tuple #[]) ∧ w' = w.setCell a (.int .i32 1) := by
  have hd := disable
  have he := enable
  have ha := acquire
  have hcas := run_call_cas_hit (P := Try.prog) Try.func35 (by kernel_rfl) (by kernel_rfl) (by kernel_rfl) .i32 (by kernel_rfl) (y := 1) hc hz
  have hc' : (w.setCell a (.int .i32 1)).cell? a = some (.int .i32 1) := World.cell?_setCell_same w a _ hc
  have hcv := run_convert_to_unsafe (P := Try.prog) (src := 73) (dst := 77) Try.underlying73 Try.underlying77 (by kernel_rfl) hc'
  go_enter Try.func26, Try.ntmps26
  go_wp2
  first | go_end0 | (simp only [Exit.inBlock, Exit.then]; refine bodyPost_ret (results_none rfl _ _ _) rfl ?_) | refine bodyPost_ret (results_none rfl _ _ _) rfl ?_
  go_wp2
  go_end0
  exact ⟨rfl, rfl⟩

/-- The object, its squares worked out. -/
def TilD (t b : Nat) (w : World) : Prop := ∃ g, TilO t b 1 0 (.slice (some ⟨g, 0, none⟩) (sizN t) (sizN t)) w ∧ BlR t g (sizN t) w ∧ g ≠ b
/-- The object. -/
def Til (t b : Nat) (w : World) : Prop := (∃ v0, TilO t b 0 0 v0 w) ∨ TilD t b w
def OnMade (t b : Nat) (w : World) (e : Ending) (w' : World) : Prop := e = .returned (.tuple #[]) ∧ TilD t b w' ∧ w.grownBy w' (some b)
theorem on_done {t b : Nat} {w0 w w' : World} (hg : w0.grownBy w (some b)) (hs : w.heap.size = w0.heap.size) (hb : b < w0.heap.size) (h : CpS t b 0 1 w.heap.size (sizN t) w w') : TilD t b ((w'.drew.setCell ⟨b, 1, none⟩ (.int .u32 1)).setCell ⟨b, 2, none⟩ (.int .i32 0)) ∧ w0.grownBy ((w'.drew.setCell ⟨b, 1, none⟩ (.int .u32 1)).setCell ⟨b, 2, none⟩ (.int .i32 0)) (some b) := by
  obtain ⟨h1, h2, h3⟩ := h
  have hne : w.heap.size ≠ b := by omega
  have h4 : BlR t w.heap.size (sizN t) w'.drew := h2
  have h5 : TilO t b 0 1 (.slice (some ⟨w.heap.size, 0, none⟩) (sizN t) (sizN t)) w'.drew := h1
  exact ⟨⟨w.heap.size, (h5.set1 1).set2 0, World.rowIs.setOther (World.rowIs.setOther h4 hne _) hne _, hne⟩, grown_set (grown_set (grown_drew (grown_more hg h3 (fun r e => .inr e))) _ _) _ _⟩

set_option maxRecDepth 100000 in
set_option maxHeartbeats 1600000 in
theorem slow_any (t b : Nat) (v0 : Value) (w : World) (ht : 1 ≤ t ∧ t ≤ 3) (hO : TilO t b 0 0 v0 w) :
    Calls Try.prog 23 #[.pointer (some ⟨b, 1, none⟩), .func (.func 18) #[.pointer (some ⟨b, 0, none⟩)] #[]] w (OnMade t b w) := by
  have hlt := hO.lt
  have h2 := hO.c2
  have f2 := hO.frozen 2
  have hO1 := hO.set2 1
  have hl := run_call_load (P := Try.prog) Try.func25 (by kernel_rfl) (by kernel_rfl) (by kernel_rfl) .u32 (by kernel_rfl) (w := w.setCell ⟨b, 2, none⟩ (.int .i32 1)) (a := ⟨b, 1, none⟩) (x := 0) hO1.c1
  have hnot : ∀ (x : Bool) (w : World), (Op.unary .not (.bool x)).run Try.prog w = .ok (.bool (!x)) w := fun _ _ => rfl
  have HC := Lib.hid (compute_any t b 0 1 v0 _ ht hO1)
  have HD := Lib.hid (fun w' => on_done (t := t) (w' := w') (grown_set (World.grownBy.refl w (some b)) 2 (.int .i32 1)) (by simp) hlt)
  clear hO hO1
  go_enter_defers Try.func23, Try.ntmps23
  go_wp2_with (first | (go_at_call 26; refine (lock_free ⟨b, 2, none⟩ _ h2 f2).mono ?_; rintro e w' ⟨rfl, rfl⟩) | (go_at_call 18; refine HC.out.mono ?_; rintro e w2 ⟨rfl, hS⟩) | (go_at_call 22; go_in))
  refine leaves_cons (f := 28) (args := #[.pointer (some ⟨b, 1, none⟩), .bool true]) (by simp) (by simp [go_sem]) ?_
  refine (store_deferred ⟨b, 1, none⟩ (.int .u32 0) .returning _ hS.1.c1 (hS.1.frozen 1)).mono ?_
  rintro e u' w'' ⟨rfl, rfl, rfl⟩
  have hS2 : TilO t b 1 1 _ (w2.drew.setCell ⟨b, 1, none⟩ (.int .u32 1)) := TilO.set1 (w := w2.drew) hS.1 1
  refine leaves_cons (f := 27) (args := #[.pointer (some ⟨b, 2, none⟩)]) (by simp [settle]) (by simp [go_sem]) ?_
  refine (unlock_deferred ⟨b, 2, none⟩ _ _ hS2.c2 (hS2.frozen 2)).mono ?_
  rintro e u' w'' ⟨rfl, rfl, rfl⟩
  have HQ := HD.out w2 hS
  have HR : OnMade t b w (.returned (.tuple #[])) _ := ⟨rfl, HQ.1, HQ.2⟩
  simpa [Leaves, settle, results, Try.results23] using HR

set_option maxRecDepth 100000 in
set_option maxHeartbeats 1600000 in
theorem do_any (t b : Nat) (w : World) (ht : 1 ≤ t ∧ t ≤ 3) (h : Til t b w) :
    Calls Try.prog 17 #[.pointer (some ⟨b, 1, none⟩), .func (.func 18) #[.pointer (some ⟨b, 0, none⟩)] #[]] w (OnMade t b w) := by
  have hnot : ∀ (x : Bool) (w : World), (Op.unary .not (.bool x)).run Try.prog w = .ok (.bool (!x)) w := fun _ _ => rfl
  rcases h with ⟨v0, hO⟩ | hD
  · have hl := run_call_load (P := Try.prog) Try.func25 (by kernel_rfl) (by kernel_rfl) (by kernel_rfl) .u32 (by kernel_rfl) hO.c1
    have HS := Lib.hid (slow_any t b v0 w ht hO)
    clear hO
    go_enter Try.func17, Try.ntmps17
    go_wp2_with (first | (go_at_call 23; refine HS.out.mono ?_; rintro e w' ⟨rfl, h1, h2⟩) | (go_at_call 22; go_in))
    go_end0
    exact ⟨rfl, h1, h2⟩
  · have HQ : Hid (OnMade t b w (.returned (.tuple #[])) w) := ⟨rfl, hD, World.grownBy.refl _ _⟩
    obtain ⟨g, hO, _, _⟩ := hD
    have hl := run_call_load (P := Try.prog) Try.func25 (by kernel_rfl) (by kernel_rfl) (by kernel_rfl) .u32 (by kernel_rfl) hO.c1
    clear hO
    go_enter Try.func17, Try.ntmps17
    go_wp2
    go_end0
    exact HQ.out

end Go.Proofs.Ytbfgfeggiicmbaa
