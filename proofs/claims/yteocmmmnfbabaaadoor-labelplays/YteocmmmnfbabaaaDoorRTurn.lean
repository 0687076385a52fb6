/-
  The document's answer for package sha: turned numbers, the tables.
-/
import Derived.Test.YteocmmmnfbabaaaDoorBlocks
import Derived.Test.YteocmmmnfbabaaaDoorArr2
namespace Go.Proofs.YteocmmmnfbabaaaDoor
set_option linter.unusedSimpArgs false
set_option linter.unusedVariables false
set_option maxRecDepth 100000
open Go.RowKit

theorem turn_run (x : Nat) (m : Int) (hx : x < 4294967296) (h1 : 1 ≤ m) (h2 : m ≤ 31) (w : World) :
    Calls Tryd.prog 75 #[.int .u32 (x : Int), .int .u64 m] w fun e w' => e = .returned (.int .u32 (rotr x m.toNat : Nat)) ∧ w' = w := by
  obtain ⟨n, rfl⟩ : ∃ n : Nat, m = n := ⟨m.toNat, by omega⟩
  have ho : bits BinOp.or IntKind.u32 ((x : Int) / 2 ^ n) ((x : Int) * 2 ^ (32 - n) % 4294967296) = ((rotr x n : Nat) : Int) := by
    have e1 : (x : Int) * 2 ^ (32 - n) % 4294967296 = ((x * 2 ^ (32 - n) % 4294967296 : Nat) : Int) := by rw [Int.natCast_emod, Int.natCast_mul, Int.natCast_pow]; rfl
    have e2 : (x : Int) / 2 ^ n = ((x / 2 ^ n : Nat) : Int) := by rw [Int.natCast_ediv, Int.natCast_pow]; rfl
    rw [e1, e2, u32_or_nat _ _ (div_lt' _ _ hx) (Nat.mod_lt _ (Nat.zero_lt_of_lt hx)), Nat.or_comm]
    rfl
  go_enter Tryd.func75, Tryd.ntmps75
  go_wp2
  go_ret
  exact ⟨rfl, rfl⟩

theorem start_run (w : World) : Calls Tryd.prog 64 #[] w fun e w' => e = .returned (.agg firsts8.val.toArray) ∧ Below w.heap.size w w' := by
  go_enter Tryd.func64, Tryd.ntmps64
  go_wp2_with (refine wpList_store_blk (by rfl) (.tmp 0) (.tmp 1) 107 (by rfl) w.heap.size 0 8 (by rfl) firsts8.val (by rfl) (sizeOf_run (by kernel_rfl)) (e := 107) (vs := (List.replicate 8 (0 : Int)).map (Value.int .u32)) (Blk.newAt rfl (by rfl)) rfl (by decide) (int_oneCell _ _) firsts8.val (by rfl) ?_
               intro w6 hb6 hbut6 hsz6)
  refine bodyPost_ret_blk (by rfl) (by rfl) (by rfl) (isAgg_array Tryd.underlying107) (sizeOf_run (by kernel_rfl)) hb6 (by rfl) ?_
  exact ⟨rfl, ((Below.refl _ _).alloc (Nat.le_refl _) _).trans (hbut6.below (Nat.le_refl _) (by simp))⟩

theorem steps_run (w : World) : Calls Tryd.prog 65 #[] w fun e w' => e = .returned (.slice (some ⟨w.heap.size, 0, none⟩) 64 64) ∧ Tab .u32 w' w.heap.size (ints stepNums) ∧ Below w.heap.size w w' := by
  go_enter Tryd.func65, Tryd.ntmps65
  go_wp2
  go_ret
  refine ⟨rfl, fun i hi => ?_, (Below.refl _ _).alloc (Nat.le_refl _) _⟩
  exact Arr.cell (Arr.new (K := .u32) (e := 22) (w := w) (cur := ints stepNums) rfl) i hi
end Go.Proofs.YteocmmmnfbabaaaDoor
