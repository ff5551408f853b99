/-
  Package mask over the landed code: Symbols.
-/
import Derived.Test.YthmfolekohomiaaMk4
import Derived.Test.YthmfolekohomiaaMemI
import Derived.Test.YthmfolekohomiaaLayM
namespace Go.Proofs.Ythmfolekohomiaa
open Go.RowKit Go.Maps Go.Sort Go.Shelf

/-- slices.Sort's two contracts at this program. -/
theorem sortsL (m : Nat) : AnyZI.SortsIn Try.prog Try.sortedL_ren Fence.wide m :=
  ⟨fun blk off cap ss W hH hblk hsz => callsIn_wide.2 (AnyM.slices_Sort_int Try.sortI blk off cap ss W hH hblk hsz),
   fun p cap W => callsIn_wide.2 (AnyM.slices_Sort_int_none Try.sortI p cap W)⟩

theorem symU_sorted (b : List Int) : (symU b).mergeSort leI = symU b := by
  have h := (symU_up b).imp (fun {x y} (h : x < y) => show leI x y = true from decide_eq_true (Int.le_of_lt h))
  exact List.mergeSort_of_pairwise h

theorem keys_sorted {w : World} {B J : Nat} {b : List Int} {D : DataW Value} {R : Value → Option (DataW Value × List MemPlace)} (hown : w.ownsMap Try.prog 3 R B J D) (hhas : ∀ k, Maps.has D (.int .i64 k) = decide (k ∈ b)) {ss : List Int} (hp : ss.Perm (intKeys D)) :
    ss.mergeSort leI = symU b := by
  obtain ⟨es, hD, hpw, _⟩ := hown.entries klaw
  obtain ⟨es', hD', hko⟩ := hown.keysOf
  obtain rfl : es = es' := by rw [hD] at hD'; simpa using hD'
  subst hD
  have h1 : (symU b).Perm (intKeys (.map es)) := perm_intKeys hpw (fun p hp => by obtain ⟨v, hv⟩ := hko p hp; obtain ⟨x, _, hx, _⟩ := Maps.keyOf_i64 Try.underlying3 hv; exact ⟨x, hx⟩) ((symU_up b).imp (fun {x y} (h : x < y) => by omega)) (fun x => by rw [hhas x, symU_mem]; simp)
  rw [mergeSort_of_perm_i (hp.trans h1.symm), symU_sorted]

set_option maxHeartbeats 1000000 in
theorem symbols_any (lo hi : Nat) (b : List Int) (v : Value) (w : World) (hb : b.length ≤ 1048576) (hm : Msk lo hi b w v) :
    Calls Try.prog 12 #[v] w (MadeI (symU b) w) := by
  obtain ⟨p, B, r, f, rfl, h1, h2, h3, h4, h5, h6, h7⟩ := hm
  have c1 : w.cell? ⟨p, 1, none⟩ = some (.map (some B)) := by simp [World.cell?, h5]
  obtain ⟨D, hown, _, hhas⟩ := h6.own
  rw [List.take_length] at hhas
  have hsz := hown.size_le
  clear h5 h6 h7
  refine (callsIn_wide (n := 6)).1 ?_
  have hbl := hown.lt
  have hseq : SeqGives Fence.wide 2 Try.prog 37 #[.pointer (some ⟨w.heap.size, 0, none⟩)] encZ (fun ss => ss.Perm (intKeys D)) (Maps.size D) (w.alloc (.cells #[.map (some B)] 41)) :=
    AnyZI.keys_gives (ρ := Try.keysL_ren) { Try.keysL with } Fence.wide _ trivial rfl (by omega) w.heap.size B b.length D _ (by simp) (by simp) (by
      obtain ⟨es, clock, hb, Ft, hs, hD⟩ := hown
      exact ⟨es, clock, (Below.heap_alloc _ _ B hbl).trans hb, Ft, hs, hD⟩)
  have cK : ∀ mb W, CallsIn Fence.wide 5 Try.prog 26 #[.map mb] W fun e w' => e = .returned (.func (.func 37) #[] #[.pointer (some ⟨W.heap.size, 0, none⟩)]) ∧ w' = W.alloc (.cells #[.map mb] 41) := fun mb W => AnyZI.keys_in Try.keysL Fence.wide 5 trivial rfl mb W
  have cS := AnyZI.sorted_in Try.sortedL Fence.wide 5 trivial trivial trivial trivial rfl (by omega) (sortsL _) (enters_of Try.func36 (by kernel_rfl) rfl) 37 #[.pointer (some ⟨w.heap.size, 0, none⟩)] trivial (enters_of Try.func37 (by kernel_rfl) rfl) _ _ (by unfold maxLen; omega) (by omega) _ hseq
  change CallsIn _ _ Try.prog 25 _ _ _ at cS
  have hfK : Fence.wide.fn 26 := trivial
  have hfS : Fence.wide.fn 25 := trivial
  have HK := Lib.hid (fun ss hp => keys_sorted (ss := ss) hown hhas hp)
  clear hown hhas hseq
  refine callsIn_of_wp Try.func12 rfl trivial ?_ rfl
  simp only [Try.ntmps12, List.size_toArray, List.length_cons, List.length_nil, Nat.reduceAdd, Nat.reduceSub, Array.replicate_succ, Array.replicate_zero, List.push_toArray, List.append_toArray, List.nil_append, List.cons_append]
  gi_wp2_with (first
    | (gi_at_call 26; refine (cK _ _).mono ?_; rintro e w' ⟨rfl, rfl⟩)
    | (gi_at_call 25; refine cS.mono ?_; rintro e w' ⟨v, ss, rfl, hS, hrow, hnil, hb⟩))
  go_ret
  refine ⟨v, rfl, ?_, ((Below.refl _ w).alloc (Nat.le_refl _) _).trans (hb.mono (by simp))⟩
  have e : ss.mergeSort (fun x y => decide (x ≤ y)) = symU b := HK.out ss hS
  have e2 : ss.length = (symU b).length := by rw [← e]; simp
  have := ownsRow_base_a (base' := w.heap.size) hrow (by simp)
  rw [e, e2] at this
  exact this

end Go.Proofs.Ythmfolekohomiaa
