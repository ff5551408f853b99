/-
  Contracts of package tok. (Part 3: total, Join, Ends.)
-/
import Derived.Test.YtjhadoglcmhloaaTok2
namespace Go.Proofs.Ytjhadoglcmhloaa
open Go.RowKit

set_option maxHeartbeats 400000 in
theorem total_any (A : Option Addr) (n c : Nat) (vs : List Value) (ls : List (List UInt8)) (w : World) (hn : ls.length = n) (hb : n ≤ 2147483648) (hr : Row w A vs) (hbs : BSs w vs ls) (hs : (joined ls).length ≤ 2147483648) :
    Calls Try.prog 24 #[.slice A n c] w fun e w' => e = .returned (.int .i64 ((joined ls).length : Int)) ∧ w = w' := by
  subst hn
  go_enter Try.func24, Try.ntmps24
  go_wp2_with fail
  go_loop [3, 8] (fun s i => ∃ k : Nat, k ≤ ls.length ∧ i = .int .i64 k ∧ s = .int .i64 ((joined (ls.take k)).length : Nat)) (fun _ i => ls.length - (intOf i).toNat)
  case atStart => exact ⟨0, Nat.zero_le _, rfl, rfl⟩
  case round =>
    obtain ⟨k, hk, rfl, rfl⟩ := hrel
    have hle := joined_take_le ls k
    by_cases hlt : k < ls.length
    · obtain ⟨g, o, A', c', rfl, hc, h1, h2, h3, _⟩ := hbs.cell hr hlt
      have hle2 := joined_take_le ls (k + 1)
      have hst := Lib.hid (congrArg List.length (joined_take ls k hlt))
      have hst2 : (joined (ls.take k)).length + ls[k].length ≤ 2147483648 := by have := hst.out; rw [List.length_append] at this; omega
      clear hle2
      unfold maxLen at h2
      go_wp2_with fail
      go_round
      case rel => exact ⟨k + 1, by omega, by go_num, by rw [hst.out, List.length_append]; go_num⟩
      case measure => simp [intOf]; omega
    · have he : ls.take k = ls := List.take_of_length_le (by omega)
      rw [he]
      clear he
      go_wp2_with fail
      go_ret
      exact ⟨rfl, rfl⟩

def JoinRel (ls : List (List UInt8)) (w : World) (v i : Value) (wr : World) : Prop :=
  ∃ (k : Nat), k ≤ ls.length ∧ i = .int .i64 k ∧ v = .slice (some ⟨w.heap.size, 0, none⟩) (joined (ls.take k)).length (joined ls).length ∧
    wr.ownsRow w.heap.size 5 1 v (joined (ls.take k)).length (bv (joined (ls.take k))) ∧ Below w.heap.size w wr

set_option maxHeartbeats 800000 in
theorem join_any (A : Option Addr) (n c : Nat) (vs : List Value) (ls : List (List UInt8)) (w : World) (hn : ls.length = n) (hb : n ≤ 2147483648) (hr : Row w A vs) (hbs : BSs w vs ls) (hs : (joined ls).length ≤ 2147483648) :
    Calls Try.prog 18 #[.slice A n c] w (MadeB (joined ls) w) := by
  obtain ⟨i0, hi, hz0, hz1, hz2⟩ := info_parts Try.infoU8
  subst hn
  go_enter Try.func18, Try.ntmps18
  go_wp2_with fail
  refine (total_any A _ c vs ls _ rfl hb hr hbs hs).mono ?_
  rintro e w' ⟨rfl, rfl⟩
  go_wp2_with (at_make; refine wpList_make_own _ rfl _ _ 27 rfl w.heap.size 5 i0 (.int .u8 0) 1 Try.underlying27 hi hz0 hz1 .i64 .i64 _ (joined ls).length rfl rfl rfl (by rw [hz2]; omega) (by unfold maxLen; omega) (Nat.le_refl _) ?_)
  intro w1 hown hg
  have hb1 : Below w.heap.size w w1 := (Below.refl _ _).grown hg (Nat.le_refl _) (fun k hk => by cases hk)
  clear hg
  go_wp2_with fail
  go_loopw [3, 11] (fun v i wr => JoinRel ls w v i wr) (fun _ i _ => ls.length - (intOf i).toNat)
  case atStart => exact ⟨0, Nat.zero_le _, rfl, rfl, hown, hb1⟩
  case round =>
    clear hown hb1
    obtain ⟨k, hk, rfl, rfl, hown, hbr⟩ := hrel
    by_cases hlt : k < ls.length
    · obtain ⟨g, o, A', c', rfl, hc, h1, h2, h3, h4⟩ := (hbs.below hbr).cell (hr.below hbr) hlt
      have hst := Lib.hid (joined_take ls k hlt)
      have hle2 := joined_take_le ls (k + 1)
      have hst2 : (joined (ls.take k)).length + ls[k].length ≤ (joined ls).length := by rw [hst.out, List.length_append] at hle2; exact hle2
      clear hle2
      unfold maxLen at h2
      have hsz := hbr.size
      go_wp2_with (at_builtin; refine wpList_append_fits_any _ rfl (.tmp 15) (.tmp 16) 27 rfl w.heap.size 5 i0 1 Try.underlying27 hi hz1 w.heap.size _ _ _ rfl hown A' ls[k].length c' (bv ls[k]) rfl (by rw [bv_length]; simp) ?c1 ?c2 (bv_one _) hst2 ?_)
      case c1 => intro e; refine ⟨?_, h4 e⟩; have := h4 e; omega
      case c2 =>
        intro ad had j u hu
        obtain ⟨g', o', e', hc'⟩ := h3 (by intro e; rw [e] at hu; simp at hu)
        rw [e'] at had
        cases had
        rw [Addr.add_lit]
        exact hc' j u hu
      intro w2 hown2 hg2
      have hb2 : Below w.heap.size w w2 := hbr.grown hg2 hsz (fun k hk => by cases hk; exact Nat.le_refl _)
      have R : JoinRel ls w (.slice (some ⟨w.heap.size, 0, none⟩) ((joined (ls.take k)).length + ls[k].length) (joined ls).length) (.int .i64 ((k + 1 : Nat) : Int)) w2 := by
        refine ⟨k + 1, by omega, rfl, ?_, ?_, hb2⟩
        · rw [hst.out, List.length_append]
        · rw [hst.out, List.length_append, bv_append]; exact hown2
      clear hown hown2 hg2
      go_wp2_with fail
      go_roundw
      case rel => exact R
      case measure => simp [intOf]; omega
    · have he : ls.take k = ls := List.take_of_length_le (by omega)
      rw [he] at hown ⊢
      clear he
      go_wp2_with fail
      go_ret
      exact ⟨_, rfl, hown, hbr⟩

/-- How many bytes there are up to the end of each of the first k tokens. -/
def endsTo (ls : List (List UInt8)) (k : Nat) : List Int := (List.range k).map fun j => ((joined (ls.take (j + 1))).length : Int)
theorem endsTo_succ (ls : List (List UInt8)) (k : Nat) : endsTo ls (k + 1) = endsTo ls k ++ [((joined (ls.take (k + 1))).length : Int)] := by
  simp [endsTo, List.range_succ]
theorem endsTo_length (ls : List (List UInt8)) (k : Nat) : (endsTo ls k).length = k := by simp [endsTo]

/-- What a call leaves that returns new numbers. -/
def MadeI (l : List Int) (w : World) (e : Ending) (w' : World) : Prop := ∃ v, e = .returned v ∧ w'.ownsRow w.heap.size 3 1 v l.length (l.map (Value.int .i64)) ∧ Below w.heap.size w w'

def EndsRel (ls : List (List UInt8)) (w : World) (v s i : Value) (wr : World) : Prop :=
  ∃ (k : Nat), k ≤ ls.length ∧ i = .int .i64 k ∧ s = .int .i64 ((joined (ls.take k)).length : Nat) ∧ v = .slice (some ⟨w.heap.size, 0, none⟩) k ls.length ∧
    wr.ownsRow w.heap.size 3 1 v k ((endsTo ls k).map (Value.int .i64)) ∧ Below w.heap.size w wr

set_option maxHeartbeats 800000 in
theorem ends_any (A : Option Addr) (n c : Nat) (vs : List Value) (ls : List (List UInt8)) (w : World) (hn : ls.length = n) (hb : n ≤ 2147483648) (hr : Row w A vs) (hbs : BSs w vs ls) (hs : (joined ls).length ≤ 2147483648) :
    Calls Try.prog 13 #[.slice A n c] w (MadeI (endsTo ls n) w) := by
  obtain ⟨i0, hi, hz0, hz1, hz2⟩ := info_parts Try.infoInt
  subst hn
  go_enter Try.func13, Try.ntmps13
  go_wp2_with (at_make; refine wpList_make_own _ rfl _ _ 32 rfl w.heap.size 3 i0 (.int .i64 0) 1 Try.underlying32 hi hz0 hz1 .i64 .i64 _ ls.length rfl rfl rfl (by rw [hz2]; omega) (by unfold maxLen; omega) (Nat.le_refl _) ?_)
  intro w1 hown hg
  have hb1 : Below w.heap.size w w1 := (Below.refl _ _).grown hg (Nat.le_refl _) (fun k hk => by cases hk)
  clear hg
  go_wp2_with fail
  go_loopw [3, 4, 12] (fun v s i wr => EndsRel ls w v s i wr) (fun _ _ i _ => ls.length - (intOf i).toNat)
  case atStart => exact ⟨0, Nat.zero_le _, rfl, rfl, rfl, hown, hb1⟩
  case round =>
    clear hown hb1
    obtain ⟨k, hk, rfl, rfl, rfl, hown, hbr⟩ := hrel
    by_cases hlt : k < ls.length
    · obtain ⟨g, o, A', c', rfl, hc, h1, h2, h3, h4⟩ := (hbs.below hbr).cell (hr.below hbr) hlt
      have hst := Lib.hid (joined_take ls k hlt)
      have hle2 := joined_take_le ls (k + 1)
      have hst2 : (joined (ls.take k)).length + ls[k].length ≤ (joined ls).length := by rw [hst.out, List.length_append] at hle2; exact hle2
      clear hle2
      unfold maxLen at h2
      have hsz := hbr.size
      go_wp2_with (at_builtin; refine wpList_append_fits _ rfl (.tmp 20) (.tmp 22) 32 rfl w.heap.size 3 i0 1 Try.underlying32 hi hz1 w.heap.size _ _ _ rfl (hown.alloc _) ⟨wr.heap.size, 0, none⟩ 1 1 [_] rfl rfl (cell_one_new _ _ _) (one_int _ _) (by omega) ?_)
      intro w2 hown2 hg2
      have hb2 : Below w.heap.size w w2 := (hbr.alloc hsz _).grown hg2 (by simp; omega) (fun k hk => by cases hk; exact Nat.le_refl _)
      have R : EndsRel ls w (.slice (some ⟨w.heap.size, 0, none⟩) (k + 1) ls.length) (.int .i64 ((joined (ls.take k)).length + ls[k].length : Int)) (.int .i64 ((k + 1 : Nat) : Int)) w2 := by
        refine ⟨k + 1, by omega, rfl, ?_, rfl, ?_, hb2⟩
        · rw [hst.out, List.length_append]; go_num
        · rw [endsTo_succ, List.map_append, hst.out, List.length_append]
          have e : (((joined (ls.take k)).length + ls[k].length : Nat) : Int) = ((joined (ls.take k)).length : Int) + (ls[k].length : Int) := by omega
          rw [e]
          exact hown2
      clear hown hown2 hg2
      go_wp2_with fail
      go_roundw
      case rel => exact R
      case measure => simp [intOf]; omega
    · have he : k = ls.length := by omega
      subst he
      go_wp2_with fail
      go_ret
      exact ⟨_, rfl, by rw [endsTo_length]; exact hown, hbr⟩

end Go.Proofs.Ytjhadoglcmhloaa
