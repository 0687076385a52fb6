/-
  Package fault: the names of the numbers.
-/
import Derived.Test.YtpicicecmlpldaaDoorChain
namespace Go.Proofs.YtpicicecmlpldaaDoor
set_option linter.unusedSimpArgs false
set_option linter.unusedVariables false
open Go.RowKit

/-- The names of the numbers 0 to 15. -/
def namesL : List (List UInt8) := [[111, 107], [97, 114, 103, 117, 109, 101, 110, 116], [115, 104, 111, 114, 116], [102, 111, 114, 109], [108, 97, 114, 103, 101], [110, 111, 110, 101], [101, 120, 105, 115, 116, 115], [102, 117, 108, 108],
  [100, 111, 119, 110], [100, 97, 109, 97, 103, 101, 100], [98, 97, 100], [104, 101, 108, 100], [115, 116, 97, 108, 101], [98, 117, 115, 121], [115, 117, 109], [112, 111, 111, 108]]

/-- The name of any number. -/
def nameOf (c : Int) : List UInt8 := if c < 0 ∨ 16 ≤ c then [63] else namesL.getD c.toNat []

/-- The package's table. -/
def NamesT (w : World) : Prop := ∀ i, i < 16 → w.cell? ⟨0, i, none⟩ = some (.string ⟨(namesL.getD i []).toArray⟩)

theorem NamesT.lt {w : World} (h : NamesT w) : 0 < w.heap.size := by
  rcases Nat.lt_or_ge 0 w.heap.size with h' | h'
  · exact h'
  · have := h 0 (by decide)
    simp [World.cell?, Array.getElem?_eq_none h'] at this
theorem NamesT.stays {w w' : World} (h : NamesT w) (hb : Below w.heap.size w w') : NamesT w' := fun i hi =>
  (hb.cell (show (⟨0, i, none⟩ : Addr).block < w.heap.size from h.lt)).trans (h i hi)

theorem name_run (c : Int) (w : World) (hN : NamesT w) : Calls Tryd.prog 16 #[.int .i64 c] w fun e w' => e = .returned (.string ⟨(nameOf c).toArray⟩) ∧ w' = w := by
  obtain ⟨nm, hnm⟩ : ∃ nm, nm = nameOf c := ⟨_, rfl⟩
  rw [← hnm]
  by_cases h0 : c < 0
  · obtain rfl : nm = [63] := by rw [hnm]; simp [nameOf, h0]
    clear hnm
    go_enter Tryd.func16, Tryd.ntmps16
    go_wp2
    go_ret
    exact ⟨rfl, rfl⟩
  · by_cases h1 : 16 ≤ c
    · obtain rfl : nm = [63] := by rw [hnm]; simp [nameOf, h1]
      clear hnm
      go_enter Tryd.func16, Tryd.ntmps16
      go_wp2
      go_ret
      exact ⟨rfl, rfl⟩
    · obtain ⟨k, rfl⟩ : ∃ k : Nat, c = k := ⟨c.toNat, by omega⟩
      have hk : k < 16 := by omega
      have hc : w.cell? ⟨0, k, none⟩ = some (.string ⟨nm.toArray⟩) := by
        rw [hN k hk, hnm]
        simp [nameOf, h0, h1]
      have hk' : (k : Int) < 16 := by omega
      clear hnm h0 h1
      go_enter Tryd.func16, Tryd.ntmps16
      go_wp2
      go_ret
      exact ⟨rfl, rfl⟩
end Go.Proofs.YtpicicecmlpldaaDoor
