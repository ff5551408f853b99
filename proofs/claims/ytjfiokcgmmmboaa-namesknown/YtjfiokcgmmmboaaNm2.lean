/-
  Contracts of the reference's answers for chapter 2: Find, Ids, Sort, Two.
-/
import Derived.Test.YtjfiokcgmmmboaaNm1
import Derived.Test.YtjfiokcgmmmboaaRefI
import Derived.Deep.RegionLaw
namespace Go.Proofs.Ytjfiokcgmmmboaa
open Go.RowKit
open Go.Lib (compareBytes)

/-- Each of ms is one of ds. -/
def allIn (ds ms : List Bs) : Bool := ms.all fun t => decide (t ∈ ds)
theorem allIn_iff {ds ms : List Bs} : allIn ds ms = true ↔ ∀ t ∈ ms, t ∈ ds := by simp [allIn]
/-- The places of all of ms in ds, if each is there. -/
def idsOf (ds ms : List Bs) : List Int := ms.map fun t => (rank ds t : Int)
theorem idsOf_length (ds ms : List Bs) : (idsOf ds ms).length = ms.length := by simp [idsOf]
def idsU (ds ms : List Bs) : List Int := if allIn ds ms = true then idsOf ds ms else []

/-- What Ids leaves. -/
def IdsMade (ds ms : List Bs) (w : World) (e : Ending) (w' : World) : Prop :=
  ∃ v, e = .returned (.tuple #[v, .bool (allIn ds ms)]) ∧ w'.ownsRow w.heap.size 3 1 v (idsU ds ms).length (iv (idsU ds ms)) ∧ Below w.heap.size w w'

theorem fnd_yes {ds : List Bs} {t : Bs} (h : t ∈ ds) : fnd ds t = (rank ds t, true) := by simp [fnd, h]
theorem fnd_no {ds : List Bs} {t : Bs} (h : ¬ t ∈ ds) : fnd ds t = (0, false) := by simp [fnd, h]

set_option maxHeartbeats 800000 in
theorem refFind_any (A B : Option Addr) (n c m d : Nat) (xs : List Value) (ds : List Bs) (t : Bs) (w : World) (hn : ds.length = n) (hb : n ≤ 2147483648) (hm : t.length = m) (hr : Row w A xs) (hbs : BSs w xs ds) (ht : Row w B (bv t)) (hR : Rises ds) :
    Calls Try.prog 18 #[.slice A n c, .slice B m d] w fun e w' => e = .returned (.tuple #[.int .i64 ((fnd ds t).1 : Int), .bool (fnd ds t).2]) ∧ w = w' := by
  subst hn
  have HR := Lib.hid hR
  have HM := Lib.hid hm
  clear hR hm
  go_enter Try.func18, Try.ntmps18
  go_wp2_with fail
  go_loop [6] (fun i => ∃ k : Nat, k ≤ ds.length ∧ i = .int .i64 k ∧ Hid (∀ j (h : j < ds.length), j < k → ds[j] ≠ t)) (fun i => ds.length - (intOf i).toNat)
  case atStart => exact ⟨0, Nat.zero_le _, rfl, fun j h hj => by omega⟩
  case round =>
    obtain ⟨k, hk, rfl, hkk⟩ := hrel
    by_cases hlt : k < ds.length
    · obtain ⟨g, o, A', c', rfl, hc, h1, h2, h3, h4⟩ := hbs.cell hr hlt
      by_cases he : ds[k] = t
      · have hf : fnd ds t = (k, true) := by
          rw [← he, fnd_yes (List.getElem_mem hlt), rank_at HR.out hlt]
        have hd : decide (ds[k] = t) = true := by simpa using he
        have HD := Lib.hid hd
        have HF := Lib.hid hf
        clear he hd hf
        go_wp2_with fail
        refine (refSame_any A' B _ m c' d ds[k] t _ rfl HM.out h3 ht).mono ?_
        rintro e w' ⟨rfl, rfl⟩
        rw [HD.out]
        go_wp2_with fail
        go_ret2
        exact ⟨by rw [HF.out]; rfl, rfl⟩
      · have hd : decide (ds[k] = t) = false := by simpa using he
        have HD := Lib.hid hd
        have HE := Lib.hid he
        clear he hd
        go_wp2_with fail
        refine (refSame_any A' B _ m c' d ds[k] t _ rfl HM.out h3 ht).mono ?_
        rintro e w' ⟨rfl, rfl⟩
        rw [HD.out]
        go_wp2_with fail
        go_round
        case rel =>
          refine ⟨k + 1, by omega, by go_num, fun j h hj => ?_⟩
          by_cases e : j = k
          · subst e; exact HE.out
          · exact hkk.out j h (by omega)
        case measure => simp [intOf]; omega
    · have hf : fnd ds t = (0, false) := fnd_no fun h => by
        obtain ⟨j, hj, e⟩ := List.mem_iff_getElem.1 h
        exact hkk.out j hj (by omega) e
      have HF := Lib.hid hf
      clear hf
      go_wp2_with fail
      go_ret2
      exact ⟨by rw [HF.out]; rfl, rfl⟩

/-- The head of a round of Ids. -/
def IdsRel (ds ms : List Bs) (w : World) (v i : Value) (wr : World) : Prop :=
  ∃ k : Nat, k ≤ ms.length ∧ i = .int .i64 k ∧ allIn ds (ms.take k) = true ∧ wr.ownsRow w.heap.size 3 1 v k (iv (idsOf ds (ms.take k))) ∧ Below w.heap.size w wr

theorem idsOf_snoc (ds ms : List Bs) {k : Nat} (hk : k < ms.length) : idsOf ds (ms.take (k + 1)) = idsOf ds (ms.take k) ++ [(rank ds ms[k] : Int)] := by
  rw [List.take_succ_eq_append_getElem hk]
  unfold idsOf
  rw [List.map_append]
  rfl
theorem allIn_snoc {ds ms : List Bs} {k : Nat} (hk : k < ms.length) (h : allIn ds (ms.take k) = true) (hm : ms[k] ∈ ds) : allIn ds (ms.take (k + 1)) = true := by
  rw [List.take_succ_eq_append_getElem hk]
  rw [allIn_iff] at h ⊢
  intro t ht
  rcases List.mem_append.1 ht with e | e
  · exact h t e
  · rw [List.mem_singleton] at e
    subst e
    exact hm
theorem allIn_not {ds ms : List Bs} {k : Nat} (hk : k < ms.length) (hm : ¬ ms[k] ∈ ds) : allIn ds ms = false := by
  cases h : allIn ds ms with
  | false => rfl
  | true => exact absurd (allIn_iff.1 h _ (List.getElem_mem hk)) hm

theorem ids_fail {ds ms : List Bs} {w wr : World} (h : allIn ds ms = false) (hb : Below w.heap.size w wr) : IdsMade ds ms w (.returned (.tuple #[.slice none 0 0, .bool false])) wr := by
  refine ⟨.slice none 0 0, by rw [h], ?_, hb⟩
  have e : idsU ds ms = [] := by simp [idsU, h]
  rw [e]
  exact World.ownsRow_nil _ _ _ _
theorem ids_done {ds ms : List Bs} {w wr : World} {v : Value} (h : allIn ds ms = true) (hown : wr.ownsRow w.heap.size 3 1 v ms.length (iv (idsOf ds ms))) (hb : Below w.heap.size w wr) : IdsMade ds ms w (.returned (.tuple #[v, .bool true])) wr := by
  refine ⟨v, by rw [h], ?_, hb⟩
  have e : idsU ds ms = idsOf ds ms := by simp [idsU, h]
  rw [e, idsOf_length]
  exact hown

set_option maxHeartbeats 1600000 in
theorem refIds_any (A A' : Option Addr) (n c n' c' : Nat) (xs vs : List Value) (ds ms : List Bs) (w : World) (hn : ds.length = n) (hb : n ≤ 2147483648) (hn' : ms.length = n') (hb' : n' ≤ 2147483648) (hr : Row w A xs) (hbs : BSs w xs ds) (hr' : Row w A' vs) (hbs' : BSs w vs ms) (hR : Rises ds) :
    Calls Try.prog 19 #[.slice A n c, .slice A' n' c'] w (IdsMade ds ms w) := by
  obtain ⟨i0, hi, hz0, hz1, hz2⟩ := info_parts Try.infoInt
  subst hn'
  have HN := Lib.hid hn
  have HR := Lib.hid hR
  clear hn hR
  go_enter Try.func19, Try.ntmps19
  go_wp2_with fail
  go_loopw [6, 7] (fun v i wr => IdsRel ds ms w v i wr) (fun _ i _ => ms.length - (intOf i).toNat)
  case atStart => exact ⟨0, Nat.zero_le _, rfl, by simp [allIn], World.ownsRow_nil _ _ _ _, Below.refl _ _⟩
  case round =>
    obtain ⟨k, hk, rfl, hall, hown, hbr⟩ := hrel
    have HA := Lib.hid hall
    clear hall
    by_cases hlt : k < ms.length
    · obtain ⟨g, o, B, cB, rfl, hc, h1, h2, h3, h4⟩ := BSs.cell (hr'.below hbr) (hbs'.below hbr) hlt
      have hsz := hbr.size
      by_cases hm : ms[k] ∈ ds
      · have hf := Lib.hid (fnd_yes hm)
        have HX : Hid (IdsRel ds ms w u6 (.int .i64 k) wr) := ⟨k, hk, rfl, HA.out, hown, hbr⟩
        go_wp2_with fail
        refine (refFind_any A B n c _ cB xs ds ms[k] _ HN.out hb rfl (hr.below hbr) (hbs.below hbr) h3 HR.out).mono ?_
        rintro e w' ⟨rfl, rfl⟩
        rw [hf.out]
        go_wp2_with (at_builtin; refine wpList_append_own _ rfl (.tmp 27) (.tmp 29) 27 rfl w.heap.size 3 i0 (.int .i64 0) 1 8 Try.underlying27 hi hz0 hz1 hz2 rfl (by decide) _ _ _ rfl (hown.alloc _) ⟨wr.heap.size, 0, none⟩ 1 1 [_] rfl rfl (cell_one_new _ _ _) (one_int _ _) (by unfold maxLen; omega) (by omega) (by simp; omega) ?_)
        intro v' w3 hown' hg' _
        have R : IdsRel ds ms w v' (.int .i64 (k + 1 : Nat)) w3 := by
          refine ⟨k + 1, by omega, rfl, allIn_snoc hlt HA.out hm, ?_, ?_⟩
          · rw [idsOf_snoc ds ms hlt, iv_append]
            exact hown'
          · exact (hbr.alloc (by omega) _).grown hg' (by simp; omega) (fun x hx => (hown.lt x hx).1)
        clear hown' hg' hown HX
        go_wp2_with fail
        go_roundw
        case rel => exact R
        case measure => simp [intOf]; omega
      · have hf := Lib.hid (fnd_no hm)
        have HF := Lib.hid (ids_fail (w := w) (allIn_not hlt hm) hbr)
        go_wp2_with fail
        refine (refFind_any A B n c _ cB xs ds ms[k] _ HN.out hb rfl (hr.below hbr) (hbs.below hbr) h3 HR.out).mono ?_
        rintro e w' ⟨rfl, rfl⟩
        rw [hf.out]
        go_wp2_with fail
        go_ret2
        exact HF.out
    · have he : k = ms.length := by omega
      subst he
      have HA' := HA.out
      rw [List.take_length] at HA' hown
      have HF := Lib.hid (ids_done (w := w) HA' hown hbr)
      clear hown HA'
      go_wp2_with fail
      go_ret2
      exact HF.out

end Go.Proofs.Ytjfiokcgmmmboaa
