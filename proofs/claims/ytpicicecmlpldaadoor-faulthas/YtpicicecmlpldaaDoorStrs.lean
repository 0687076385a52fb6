/-
  Strings behind a slice.
-/
import Derived.Test.YtpicicecmlpldaaDoorArr2
namespace Go.Proofs.YtpicicecmlpldaaDoor
set_option linter.unusedSimpArgs false
set_option linter.unusedVariables false
open Go.RowKit

/-- The strings xs lie from the address on. -/
def Ss (w : World) (a : Option Addr) (xs : List ByteArray) : Prop :=
  0 < xs.length → ∃ b off, a = some ⟨b, off, none⟩ ∧ ∀ i, i < xs.length → w.cell? ⟨b, off + i, none⟩ = some (.string (xs.getD i .empty))

theorem Ss.stays {w w' : World} {a : Option Addr} {xs : List ByteArray} (h : Ss w a xs) (hb : Below w.heap.size w w') : Ss w' a xs := by
  intro hp
  obtain ⟨b, off, ha, hc⟩ := h hp
  refine ⟨b, off, ha, fun i hi => ?_⟩
  have hlt : b < w.heap.size := by
    rcases Nat.lt_or_ge b w.heap.size with h' | h'
    · exact h'
    · have := hc 0 hp
      simp [World.cell?, Array.getElem?_eq_none h'] at this
  exact (hb.cell (show (⟨b, off + i, none⟩ : Addr).block < w.heap.size from hlt)).trans (hc i hi)

theorem Ss.at {w : World} {a : Option Addr} {xs : List ByteArray} (h : Ss w a xs) (k : Nat) (hk : k < xs.length) :
    ∃ b off, a = some ⟨b, off, none⟩ ∧ w.cell? ⟨b, off + k, none⟩ = some (.string (xs.getD k .empty)) := by
  obtain ⟨b, off, ha, hc⟩ := h (by omega)
  exact ⟨b, off, ha, hc k hk⟩
end Go.Proofs.YtpicicecmlpldaaDoor
