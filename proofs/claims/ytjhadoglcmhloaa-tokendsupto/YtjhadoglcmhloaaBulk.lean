/-
  What the bound of an '..UptoSaid' gives: so many bytes at the most.
-/
import Derived.Test.YtjhadoglcmhloaaArgs
namespace Go.Proofs.Ytjhadoglcmhloaa

theorem bulk_one {H : Type} (d : DataW H) : 1 ≤ Rows.uptoBulk d := by
  cases d with
  | lit l => cases l <;> simp [Rows.uptoBulk]
  | nil => simp [Rows.uptoBulk]
  | ptr d => simp [Rows.uptoBulk]
  | slice elems spare => simp [Rows.uptoBulk]
  | agg parts => simp [Rows.uptoBulk]
  | iface t d => simp [Rows.uptoBulk]
  | map entries => simp [Rows.uptoBulk]
  | held h => simp [Rows.uptoBulk]

theorem bulk_count {H : Type} (l : List (DataW H)) : l.length ≤ Rows.uptoBulkAll l := by
  induction l with
  | nil => simp [Rows.uptoBulkAll]
  | cons x r ih =>
    have := bulk_one x
    simp only [Rows.uptoBulkAll, List.length_cons]
    omega

theorem bulk_row {H : Type} {e : DataW H} {l : List UInt8} (h : RowData e l) : l.length ≤ Rows.uptoBulk e := by
  rcases h with rfl | ⟨es, sp, rfl, hl⟩
  · simp
  · have := bulk_count es
    simp only [Rows.uptoBulk]
    omega

theorem bulk_each {H : Type} : ∀ (es : List (DataW H)) (ls : List (List UInt8)), es.length = ls.length → (∀ (i : Nat) e l, es[i]? = some e → ls[i]? = some l → RowData e l) → (joined ls).length ≤ Rows.uptoBulkAll es
  | [], [], _, _ => by simp [joined]
  | e :: es, l :: ls, hl, h => by
    have h0 := bulk_row (h 0 e l rfl rfl)
    have h1 := bulk_each es ls (by simpa using hl) (fun i e' l' he hl' => h (i + 1) e' l' (by simpa using he) (by simpa using hl'))
    simp only [Rows.uptoBulkAll]
    unfold joined at h1 ⊢
    rw [List.flatten_cons, List.length_append]
    omega

theorem bulk_rows {H : Type} {d : DataW H} {ls : List (List UInt8)} (h : RowsData d ls) : (joined ls).length ≤ Rows.uptoBulk d := by
  rcases h with rfl | ⟨es, sp, rfl, hl, he⟩
  · simp [joined]
  · have := bulk_each es ls hl he
    simp only [Rows.uptoBulk]
    omega

theorem bulk_part {H : Type} {d : DataW H} {ds : List (DataW H)} (h : d ∈ ds) : Rows.uptoBulk d ≤ Rows.uptoBulkAll ds := by
  induction ds with
  | nil => cases h
  | cons x r ih =>
    simp only [Rows.uptoBulkAll]
    rcases List.mem_cons.1 h with e | e
    · subst e; omega
    · have := ih e; omega

theorem bulk_bound {H : Type} {ds : List (DataW H)} (h : Rows.uptoSmall H ds = true) : Rows.uptoBulkAll ds ≤ 1048576 := of_decide_eq_true h

end Go.Proofs.Ytjhadoglcmhloaa
