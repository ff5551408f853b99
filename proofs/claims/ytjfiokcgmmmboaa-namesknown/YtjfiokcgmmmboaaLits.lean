/-
  Byte literals in a walk: their conversion to their own type, d blocks behind a world.
-/
import Derived.Test.YtjfiokcgmmmboaaMemB
import Derived.Lib.SlBytesConst
namespace Go.Proofs.Ytjfiokcgmmmboaa
open Go.RowKit

theorem kcN {P : Program} {t e : TypeId} (ht : P.underlying t = some (.slice e)) (he : P.underlying e = some (.int .u8)) (w : World) (b : Nat) (hb : w.heap.size = b) (C : Array Value) (n c : Nat) :
    (convert t t (.slice (some ⟨b, 0, none⟩) n c)).run P (w.alloc (.cells C e)) = .ok (.slice (some ⟨b, 0, none⟩) n c) (w.alloc (.cells C e (C.size, C.size + 1))) := by
  subst hb
  exact Lib.run_convert_bytes_const w t e C n c ht he

theorem lit0 (w : World) (C : Array Value) (n c : Nat) : (convert 24 24 (.slice (some ⟨w.heap.size, 0, none⟩) n c)).run Try.prog (w.alloc (.cells C 5)) = .ok (.slice (some ⟨w.heap.size, 0, none⟩) n c) (w.alloc (.cells C 5 (C.size, C.size + 1))) :=
  kcN Try.underlying24 Try.underlying5 w _ rfl C n c
theorem lit1 (w : World) (o1 : Obj) (C : Array Value) (n c : Nat) : (convert 24 24 (.slice (some ⟨w.heap.size + 1, 0, none⟩) n c)).run Try.prog ((w.alloc o1).alloc (.cells C 5)) = .ok (.slice (some ⟨w.heap.size + 1, 0, none⟩) n c) ((w.alloc o1).alloc (.cells C 5 (C.size, C.size + 1))) :=
  kcN Try.underlying24 Try.underlying5 (w.alloc o1) _ (by simp) C n c
theorem lit2 (w : World) (o1 o2 : Obj) (C : Array Value) (n c : Nat) : (convert 24 24 (.slice (some ⟨w.heap.size + 2, 0, none⟩) n c)).run Try.prog (((w.alloc o1).alloc o2).alloc (.cells C 5)) = .ok (.slice (some ⟨w.heap.size + 2, 0, none⟩) n c) (((w.alloc o1).alloc o2).alloc (.cells C 5 (C.size, C.size + 1))) :=
  kcN Try.underlying24 Try.underlying5 ((w.alloc o1).alloc o2) _ (by simp) C n c
theorem lit3 (w : World) (o1 o2 o3 : Obj) (C : Array Value) (n c : Nat) : (convert 24 24 (.slice (some ⟨w.heap.size + 3, 0, none⟩) n c)).run Try.prog ((((w.alloc o1).alloc o2).alloc o3).alloc (.cells C 5)) = .ok (.slice (some ⟨w.heap.size + 3, 0, none⟩) n c) ((((w.alloc o1).alloc o2).alloc o3).alloc (.cells C 5 (C.size, C.size + 1))) :=
  kcN Try.underlying24 Try.underlying5 (((w.alloc o1).alloc o2).alloc o3) _ (by simp) C n c
theorem lit4 (w : World) (o1 o2 o3 o4 : Obj) (C : Array Value) (n c : Nat) : (convert 24 24 (.slice (some ⟨w.heap.size + 4, 0, none⟩) n c)).run Try.prog (((((w.alloc o1).alloc o2).alloc o3).alloc o4).alloc (.cells C 5)) = .ok (.slice (some ⟨w.heap.size + 4, 0, none⟩) n c) (((((w.alloc o1).alloc o2).alloc o3).alloc o4).alloc (.cells C 5 (C.size, C.size + 1))) :=
  kcN Try.underlying24 Try.underlying5 ((((w.alloc o1).alloc o2).alloc o3).alloc o4) _ (by simp) C n c
theorem lit5 (w : World) (o1 o2 o3 o4 o5 : Obj) (C : Array Value) (n c : Nat) : (convert 24 24 (.slice (some ⟨w.heap.size + 5, 0, none⟩) n c)).run Try.prog ((((((w.alloc o1).alloc o2).alloc o3).alloc o4).alloc o5).alloc (.cells C 5)) = .ok (.slice (some ⟨w.heap.size + 5, 0, none⟩) n c) ((((((w.alloc o1).alloc o2).alloc o3).alloc o4).alloc o5).alloc (.cells C 5 (C.size, C.size + 1))) :=
  kcN Try.underlying24 Try.underlying5 (((((w.alloc o1).alloc o2).alloc o3).alloc o4).alloc o5) _ (by simp) C n c
theorem lit6 (w : World) (o1 o2 o3 o4 o5 o6 : Obj) (C : Array Value) (n c : Nat) : (convert 24 24 (.slice (some ⟨w.heap.size + 6, 0, none⟩) n c)).run Try.prog (((((((w.alloc o1).alloc o2).alloc o3).alloc o4).alloc o5).alloc o6).alloc (.cells C 5)) = .ok (.slice (some ⟨w.heap.size + 6, 0, none⟩) n c) (((((((w.alloc o1).alloc o2).alloc o3).alloc o4).alloc o5).alloc o6).alloc (.cells C 5 (C.size, C.size + 1))) :=
  kcN Try.underlying24 Try.underlying5 ((((((w.alloc o1).alloc o2).alloc o3).alloc o4).alloc o5).alloc o6) _ (by simp) C n c
theorem lit7 (w : World) (o1 o2 o3 o4 o5 o6 o7 : Obj) (C : Array Value) (n c : Nat) : (convert 24 24 (.slice (some ⟨w.heap.size + 7, 0, none⟩) n c)).run Try.prog ((((((((w.alloc o1).alloc o2).alloc o3).alloc o4).alloc o5).alloc o6).alloc o7).alloc (.cells C 5)) = .ok (.slice (some ⟨w.heap.size + 7, 0, none⟩) n c) ((((((((w.alloc o1).alloc o2).alloc o3).alloc o4).alloc o5).alloc o6).alloc o7).alloc (.cells C 5 (C.size, C.size + 1))) :=
  kcN Try.underlying24 Try.underlying5 (((((((w.alloc o1).alloc o2).alloc o3).alloc o4).alloc o5).alloc o6).alloc o7) _ (by simp) C n c
theorem lit8 (w : World) (o1 o2 o3 o4 o5 o6 o7 o8 : Obj) (C : Array Value) (n c : Nat) : (convert 24 24 (.slice (some ⟨w.heap.size + 8, 0, none⟩) n c)).run Try.prog (((((((((w.alloc o1).alloc o2).alloc o3).alloc o4).alloc o5).alloc o6).alloc o7).alloc o8).alloc (.cells C 5)) = .ok (.slice (some ⟨w.heap.size + 8, 0, none⟩) n c) (((((((((w.alloc o1).alloc o2).alloc o3).alloc o4).alloc o5).alloc o6).alloc o7).alloc o8).alloc (.cells C 5 (C.size, C.size + 1))) :=
  kcN Try.underlying24 Try.underlying5 ((((((((w.alloc o1).alloc o2).alloc o3).alloc o4).alloc o5).alloc o6).alloc o7).alloc o8) _ (by simp) C n c

theorem blk_new (w : World) (o : Obj) (b : Nat) (h : w.heap.size = b) : (w.alloc o).heap[b]? = some o := by
  subst h
  show (w.heap.push o)[w.heap.size]? = _
  simp
theorem blk_old {w : World} {b : Nat} {x : Obj} (h : w.heap[b]? = some x) (o : Obj) : (w.alloc o).heap[b]? = some x := by
  show (w.heap.push o)[b]? = _
  have hb := (Array.getElem?_eq_some_iff.1 h).1
  rw [Array.getElem?_push, if_neg (by omega), h]
theorem row_in {W : World} {b : Nat} {cs : List Value} {t : TypeId} {mk : Nat × Nat} (h : W.heap[b]? = some (.cells cs.toArray t mk)) : Row W (some ⟨b, 0, none⟩) cs := fun _ =>
  ⟨b, 0, rfl, fun i u hu => by
    simp only [World.cell?, h]
    simpa using hu⟩
theorem bs_lit {W : World} {b : Nat} {l : List UInt8} (n : Nat) (h : Row W (some ⟨b, 0, none⟩) (bv l)) (hn : l.length = n := by rfl) (hm : n ≤ maxLen := by decide) : BS W (.slice (some ⟨b, 0, none⟩) n n) l :=
  ⟨_, n, by rw [hn], by omega, hm, h, fun e => by cases e⟩

end Go.Proofs.Ytjfiokcgmmmboaa
