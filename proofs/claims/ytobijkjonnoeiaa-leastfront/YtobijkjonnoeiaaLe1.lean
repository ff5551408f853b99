/-
  Contract of the reference's first: the first pair from i, j on behind which there are L more.
-/
import Derived.Test.YtobijkjonnoeiaaBh2
namespace Go.Proofs.Ytobijkjonnoeiaa
open Go.RowKit

/-- x, y is alike, and behind it there are L more. -/
def Pz (a b : List Int) (L x y : Nat) : Prop := ∃ v, a[x]? = some v ∧ b[y]? = some v ∧ lx a b (x + 1) (y + 1) = L
/-- The first one from i, j on. -/
def First (a b : List Int) (i j L x y : Nat) : Prop := i ≤ x ∧ j ≤ y ∧ Pz a b L x y ∧ ∀ x' y', i ≤ x' → j ≤ y' → Pz a b L x' y' → x < x' ∨ x = x' ∧ y ≤ y'
theorem Pz.lt {a b : List Int} {L x y : Nat} (h : Pz a b L x y) : x < a.length ∧ y < b.length := by
  obtain ⟨v, h1, h2, _⟩ := h
  exact ⟨(List.getElem?_eq_some_iff.1 h1).1, (List.getElem?_eq_some_iff.1 h2).1⟩

/-- What first leaves. -/
def FirstMade (a b : List Int) (i j L : Nat) (w : World) (e : Ending) (w' : World) : Prop := ∃ x y : Nat, e = .returned (.tuple #[.int .i64 (x : Int), .int .i64 (y : Int)]) ∧ First a b i j L x y ∧ ∃ q, w' = w.drewN q

def No (a b : List Int) (i j L k : Nat) : Prop := ∀ x' y', i ≤ x' → x' < k → j ≤ y' → ¬ Pz a b L x' y'
def NoIn (a b : List Int) (j L x k : Nat) : Prop := ∀ y', j ≤ y' → y' < k → ¬ Pz a b L x y'
theorem no_next {a b : List Int} {i j L x k : Nat} (h : No a b i j L x) (h' : NoIn a b j L x k) (hk : b.length ≤ k) : No a b i j L (x + 1) := fun x' y' g1 g2 g3 hp => by
  by_cases e : x' = x
  · subst e
    exact h' y' g3 (by have := hp.lt; omega) hp
  · exact h x' y' g1 (by omega) g3 hp
theorem noIn_next {a b : List Int} {j L x k : Nat} (h : NoIn a b j L x k) (hn : ¬ Pz a b L x k) : NoIn a b j L x (k + 1) := fun y' g1 g2 hp => by
  by_cases e : y' = k
  · subst e
    exact hn hp
  · exact h y' g1 (by omega) hp
theorem first_here {a b : List Int} {i j L x y : Nat} (h1 : i ≤ x) (h2 : j ≤ y) (h : No a b i j L x) (h' : NoIn a b j L x y) (hp : Pz a b L x y) : First a b i j L x y := ⟨h1, h2, hp, fun x' y' g1 g2 hp' => by
  rcases Nat.lt_or_ge x x' with e | e
  · exact .inl e
  · right
    by_cases e' : x' = x
    · subst e'
      refine ⟨rfl, ?_⟩
      rcases Nat.lt_or_ge y' y with e2 | e2
      · exact absurd hp' (h' y' g2 e2)
      · exact e2
    · exact absurd hp' (h x' y' g1 (by omega) g2)⟩

/-- The heads of the rounds. -/
def OutRel (a b : List Int) (n i j L : Nat) (w : World) (v : Value) (wr : World) : Prop := ∃ k q : Nat, i ≤ k ∧ k ≤ n ∧ v = .int .i64 (k : Int) ∧ wr = w.drewN q ∧ Hid (No a b i j L k)
def InRel (a b : List Int) (m j L k : Nat) (w : World) (v : Value) (wr : World) : Prop := ∃ k' q' : Nat, j ≤ k' ∧ k' ≤ m ∧ v = .int .i64 (k' : Int) ∧ wr = w.drewN q' ∧ Hid (NoIn a b j L k k')

set_option maxRecDepth 100000 in
set_option maxHeartbeats 3200000 in
theorem first_any (A B : Option Addr) (n m c d T i j L : Nat) (a b : List Int) (w : World) (hn : a.length = n) (hm : b.length = m) (hb : n ≤ 1048576) (hb' : m ≤ 1048576) (h1 : Row w A (iv a)) (h2 : Row w B (iv b)) (hT : Table a b n m T w) (hi : i ≤ n) (hj : j ≤ m) (hL : L ≤ 1048576) (hex : ∃ x y, i ≤ x ∧ j ≤ y ∧ Pz a b L x y) :
    Calls Try.prog 24 #[.slice A n c, .slice B m d, .slice (some ⟨T, 0, none⟩) (n + 1) (n + 1), .int .i64 (i : Int), .int .i64 (j : Int), .int .i64 ((L : Int) + 1)] w (FirstMade a b i j L w) := by
  have HN := Lib.hid hn
  have HM := Lib.hid hm
  have HE := Lib.hid hex
  clear hn hm hex
  go_enter Try.func24, Try.ntmps24
  go_wp2_with fail
  go_loopw [14] (fun v wr => OutRel a b n i j L w v wr) (fun v _ => n - (intOf v).toNat)
  case atStart => exact ⟨i, 0, Nat.le_refl _, hi, rfl, rfl, fun x' y' g1 g2 => by omega⟩
  case round =>
    obtain ⟨k, q, hik, hkn, rfl, hq, hno⟩ := hrel
    by_cases hlt : k < n
    · have r1 : Row wr A (iv a) := by rw [hq]; exact h1
      have r2 : Row wr B (iv b) := by rw [hq]; exact h2
      have rT : Table a b n m T wr := by rw [hq]; exact hT
      have HQ := Lib.hid hq
      clear hq h1 h2 hT
      go_wp2_with fail
      go_loopw [15] (fun v wx => InRel a b m j L k wr v wx) (fun v _ => m - (intOf v).toNat)
      case atStart => exact ⟨j, 0, Nat.le_refl _, hj, rfl, rfl, fun y' g1 g2 => by omega⟩
      case round =>
        obtain ⟨k', q', hjk, hkm, rfl, hq', hni⟩ := hrel
        by_cases hlt' : k' < m
        · obtain ⟨g, o, rfl, hc⟩ := r1.int (k := k) (by rw [HN.out]; exact hlt)
          obtain ⟨g', o', rfl, hd⟩ := r2.int (k := k') (by rw [HM.out]; exact hlt')
          have HX : Hid (a[k]? = some (a[k]'(by rw [HN.out]; exact hlt))) := List.getElem?_eq_getElem _
          have HY : Hid (b[k']? = some (b[k']'(by rw [HM.out]; exact hlt'))) := List.getElem?_eq_getElem _
          generalize a[k]'(by rw [HN.out]; exact hlt) = x at *
          generalize b[k']'(by rw [HM.out]; exact hlt') = y at *
          obtain ⟨t1, t2⟩ := rT (k + 1) (by omega)
          have t3 := t2 (k' + 1) (by omega)
          clear r1 r2 rT t2
          have hz := lx_le a b (k + 1) (k' + 1)
          rw [HN.out] at hz
          have HP : Hid (x = y → lx a b (k + 1) (k' + 1) = L → Pz a b L k k') := fun e e' => ⟨x, HX.out, by rw [e]; exact HY.out, e'⟩
          have HP' : Hid (Pz a b L k k' → x = y ∧ lx a b (k + 1) (k' + 1) = L) := fun ⟨v, g1, g2, g3⟩ => by
            rw [HX.out] at g1
            rw [HY.out] at g2
            exact ⟨by rw [Option.some.inj g1, Option.some.inj g2], g3⟩
          generalize lx a b (k + 1) (k' + 1) = Z at *
          generalize T + 1 + (n - (k + 1)) = R at *
          subst hq'
          by_cases heq : x = y
          · subst heq
            by_cases hZ : Z = L
            · subst hZ
              have HF := Lib.hid (first_here hik hjk hno.out hni.out (HP.out rfl rfl))
              go_wp2_with fail
              go_quiet (fail)
              go_wp2_with fail
              go_ret2
              exact ⟨k, k', rfl, HF.out, _, by rw [HQ.out, World.drewN_drewN, World.drewN_drewN]⟩
            · have hzz : ((Z : Int) == (L : Int)) = false := by simp; omega
              have HK := Lib.hid (noIn_next hni.out fun hp => hZ (HP'.out hp).2)
              go_wp2_with fail
              go_quiet (fail)
              go_wp2_with fail
              go_roundw
              case rel => first | exact ⟨k' + 1, _, by omega, by omega, by go_num, rfl, HK.out⟩ | ((repeat apply Exists.intro); exact ⟨⟨k' + 1, _, by omega, by omega, by go_num, rfl, HK.out⟩, rfl⟩)
              case measure => simp [intOf]; omega
          · have hzz : (x == y) = false := by simpa using heq
            have HK := Lib.hid (noIn_next hni.out fun hp => heq (HP'.out hp).1)
            clear heq
            go_wp2_with fail
            go_quiet (fail)
            go_wp2_with fail
            go_roundw
            case rel => first | exact ⟨k' + 1, _, by omega, by omega, by go_num, rfl, HK.out⟩ | ((repeat apply Exists.intro); exact ⟨⟨k' + 1, _, by omega, by omega, by go_num, rfl, HK.out⟩, rfl⟩)
            case measure => simp [intOf]; omega
        · have HK := Lib.hid (no_next hno.out hni.out (by rw [HM.out]; omega))
          subst hq'
          have R : OutRel a b n i j L w (.int .i64 (k + 1 : Nat)) (wr.drewN q') := ⟨k + 1, q + q', by omega, by omega, rfl, by rw [HQ.out, World.drewN_drewN], HK.out⟩
          go_wp2_with fail
          go_roundw
          case rel => first | exact R | ((repeat apply Exists.intro); exact ⟨R, rfl⟩)
          case measure => simp [intOf]; omega
    · exfalso
      obtain ⟨x, y, g1, g2, hp⟩ := HE.out
      have hl := hp.lt
      rw [HN.out] at hl
      exact hno.out x y g1 (by omega) g2 hp

end Go.Proofs.Ytobijkjonnoeiaa
