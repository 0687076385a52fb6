/-
  The walk of the law LabelPlays.
-/
import Derived.Test.YteocmmmnfbabaaaDoorLbWPlays
import Derived.Test.YteocmmmnfbabaaaDoorLbWPlayF
namespace Go.Proofs.YteocmmmnfbabaaaDoor
open Go.RowKit

theorem plays_walk (a : Option Addr) (c : Nat) (xs : List ActL) (f : Int) (hf1 : f ≤ 9223372036854775807) (w : World) (hacts : ActsL w a xs) (hxl : xs.length ≤ 9223372036854775807) (hV : Vars w) :
    Calls Tryd.prog 5 #[.slice a xs.length c, .int .i64 f] w fun e w' => e = .returned (.bool true) ∧ Below w.heap.size w w' := by
  by_cases hf0 : 0 < f
  · exact plays_fused a c xs f hf1 hf0 w hacts hxl hV
  · exact plays_plain a c xs f hf1 hf0 w hacts hxl hV

end Go.Proofs.YteocmmmnfbabaaaDoor
