/-
  Package disk: what is read of no writes and of one.
-/
import Derived.Test.YteocmmmnfbabaaaDoorRest
namespace Go.Proofs.YteocmmmnfbabaaaDoor
set_option linter.unusedSimpArgs false
set_option linter.unusedVariables false
open Go.RowKit

theorem owns_cell {w : World} {base g n cap : Nat} {e : TypeId} {xs : List Int} (h : w.ownsRow base e 1 (.slice (some ⟨g, 0, none⟩) n cap) n (xs.map (Value.int .u8))) {k : Nat} (hk : k < n) : w.cell? ⟨g, k, none⟩ = some (.int .u8 (xs.getD k 0)) := by
  have hl : xs.length = n := by have := h.1; simpa using this
  rw [h.cellAt k (by omega)]
  simp [List.getD, show k < xs.length by omega]

theorem readOf_one (laid : List Int) (f : Buf) : readOf laid [f] f.at' = f.xs := by simp [readOf]
theorem readOf_nil (laid : List Int) (s : Nat) : readOf laid [] s = secOf laid s := by simp [readOf]
theorem laidTo_none (laid : List Int) (bufs : List Buf) (keep : Nat → Int) : laidTo laid bufs keep 0 = laid := rfl

end Go.Proofs.YteocmmmnfbabaaaDoor
