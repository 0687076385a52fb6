/-
  Package sha: the hash of three bytes, reckoned.
-/
import Derived.Test.YtnkblmbpioamnaaDoorBlocks
namespace Go.Proofs.YtnkblmbpioamnaaDoor

def abcHash : List Int := [186, 120, 22, 191, 143, 1, 207, 234, 65, 65, 64, 222, 93, 174, 34, 35, 176, 3, 97, 163, 150, 23, 122, 156, 180, 16, 255, 97, 242, 0, 21, 173]

set_option maxRecDepth 100000 in
theorem abc_hash : shaOf [97, 98, 99] = abcHash := by decide +kernel
end Go.Proofs.YtnkblmbpioamnaaDoor
