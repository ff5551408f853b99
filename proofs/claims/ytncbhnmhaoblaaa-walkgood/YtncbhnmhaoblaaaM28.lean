/-
  Words and contracts that the proof leans on.
-/
import Derived.Test.YtncbhnmhaoblaaaM13
import Derived.Test.YtncbhnmhaoblaaaM27
namespace Go.Proofs.Ytncbhnmhaoblaaa
open Go.RowKit

theorem mask_ptr {lo hi : Nat} {b : List Int} {w : World} {v : Value} (h : Msk lo hi b w v) : ∃ p, v = .pointer (some ⟨p, 0, none⟩) := by
  obtain ⟨p, _, _, _, e, _⟩ := h
  exact ⟨p, e⟩
theorem Try.infoRowW : (Try.prog.info? 64).map (fun i => (i.zero, i.size, i.bytes)) = some (some (.slice none 0 0), 1, 24) := by kernel_rfl

end Go.Proofs.Ytncbhnmhaoblaaa
