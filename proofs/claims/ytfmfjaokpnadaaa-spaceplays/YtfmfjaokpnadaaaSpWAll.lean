/-
  The walk of the law SpacePlays, for every size.
-/
import Derived.Test.YtfmfjaokpnadaaaSpWPlays
namespace Go.Proofs.Ytfmfjaokpnadaaa
set_option linter.unusedSimpArgs false
set_option linter.unusedVariables false
open Go.RowKit

theorem plays_all (n : Int) (a : Option Addr) (c : Nat) (acts : List ActV) (w : World) (hS : Acts w a acts) (hlen : acts.length ≤ 9223372036854775807) :
    Calls Try.prog 3 #[.int .i64 n, .slice a acts.length c] w fun e w' => e = .returned (.bool true) ∧ Below w.heap.size w w' := by
  by_cases hn : 16 ≤ n ∧ n ≤ 512
  · obtain ⟨m, rfl⟩ : ∃ m : Nat, n = (m : Int) := ⟨n.toNat, by omega⟩
    exact plays_walk m (by omega) (by omega) a c acts w hS hlen
  · exact plays_bad n hn a acts.length c w
end Go.Proofs.Ytfmfjaokpnadaaa
