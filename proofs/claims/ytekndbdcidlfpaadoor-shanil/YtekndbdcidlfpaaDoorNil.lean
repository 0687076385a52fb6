/-
  Package sha: no hash, no hashes.
-/
import Derived.Test.YtekndbdcidlfpaaDoorAlive
import Derived.Test.YtekndbdcidlfpaaDoorArrEq
namespace Go.Proofs.YtekndbdcidlfpaaDoor
set_option linter.unusedSimpArgs false
set_option linter.unusedVariables false
open Go.RowKit

def noughts32 : List Int := List.replicate 32 0

theorem write_nil (a : Option Addr) (n c : Nat) (w : World) : Calls Tryd.prog 15 #[.pointer none, .slice a n c] w fun e w' => e = .returned (.tuple #[]) ∧ w' = w := by
  go_enter Tryd.func15, Tryd.ntmps15
  go_wp2
  exact bodyPost_ret (results_none rfl _ _ _) rfl ⟨rfl, rfl⟩

theorem hsum_nil (w : World) : Calls Tryd.prog 16 #[.pointer none] w fun e w' => e = .returned (.agg (noughts32.map (Value.int .u8)).toArray) ∧ Below w.heap.size w w' := by
  have hb : ∀ o, Blk 23 ((w.alloc o).alloc (.cells (noughts32.map (Value.int .u8)).toArray 23)) (w.heap.size + 1) (noughts32.map (Value.int .u8)) := fun o => Blk.newAt (by simp) rfl
  go_enter Tryd.func16, Tryd.ntmps16
  go_wp2_with (first
    | (refine wpList_load_blk (by rfl) (.tmp 3) 23 (by rfl) (w.heap.size + 1) 0 32 (by rfl) (isAgg_array Tryd.underlying23) (sizeOf_run (by kernel_rfl)) (hb _) (noughts32.map (Value.int .u8)) (by rfl) (by rfl) ?_)
    | (refine wpList_store_blk (by rfl) (.tmp 2) (.tmp 9) 23 (by rfl) w.heap.size 0 32 (by rfl) (noughts32.map (Value.int .u8)) (by rfl) (sizeOf_run (by kernel_rfl)) (e := 23) (vs := noughts32.map (Value.int .u8)) ((Blk.newAt rfl (by rfl)).alloc _) (by rfl) (by decide) (int_oneCell _ _) (noughts32.map (Value.int .u8)) (by rfl) ?_
       intro w6 hb6 hbut6 hsz6))
  refine bodyPost_ret_blk (by rfl) (by rfl) (by rfl) (isAgg_array Tryd.underlying23) (sizeOf_run (by kernel_rfl)) hb6 (by rfl) ?_
  exact ⟨rfl, (((Below.refl _ _).alloc (Nat.le_refl _) _).alloc (by simp) _).trans (hbut6.below (Nat.le_refl _) (by simp; omega))⟩

theorem tree_nil (w : World) : Calls Tryd.prog 18 #[.slice none 0 0] w fun e w' => e = .returned (.agg (noughts32.map (Value.int .u8)).toArray) ∧ Below w.heap.size w w' := by
  go_enter Tryd.func18, Tryd.ntmps18
  go_wp2_with (refine wpList_store_blk (by rfl) (.tmp 2) (.tmp 10) 23 (by rfl) w.heap.size 0 32 (by rfl) (noughts32.map (Value.int .u8)) (by rfl) (sizeOf_run (by kernel_rfl)) (e := 23) (vs := noughts32.map (Value.int .u8)) (Blk.newAt rfl (by rfl)) (by rfl) (by decide) (int_oneCell _ _) (noughts32.map (Value.int .u8)) (by rfl) ?_
               intro w6 hb6 hbut6 hsz6)
  refine bodyPost_ret_blk (by rfl) (by rfl) (by rfl) (isAgg_array Tryd.underlying23) (sizeOf_run (by kernel_rfl)) hb6 (by rfl) ?_
  exact ⟨rfl, ((Below.refl _ _).alloc (Nat.le_refl _) _).trans (hbut6.below (Nat.le_refl _) (by simp))⟩

set_option maxRecDepth 100000 in
theorem nil_walk (a : Option Addr) (n c : Nat) (w : World) (hV : Vars w) : Calls Tryd.prog 8 #[.slice a n c] w fun e w' => e = .returned (.bool true) ∧ Below w.heap.size w w' := by
  have heq := equal_same (P := Tryd.prog) Tryd.underlying23 Tryd.underlying5 (by kernel_rfl) noughts32 rfl
  have heq2 : ∀ w, (Op.equalIn 10000 23 (.agg (noughts32.map (Value.int .u8)).toArray) (.agg #[Value.int .u8 0, Value.int .u8 0, Value.int .u8 0, Value.int .u8 0, Value.int .u8 0, Value.int .u8 0, Value.int .u8 0, Value.int .u8 0, Value.int .u8 0, Value.int .u8 0, Value.int .u8 0, Value.int .u8 0, Value.int .u8 0, Value.int .u8 0, Value.int .u8 0, Value.int .u8 0, Value.int .u8 0, Value.int .u8 0, Value.int .u8 0, Value.int .u8 0, Value.int .u8 0, Value.int .u8 0, Value.int .u8 0, Value.int .u8 0, Value.int .u8 0, Value.int .u8 0, Value.int .u8 0, Value.int .u8 0, Value.int .u8 0, Value.int .u8 0, Value.int .u8 0, Value.int .u8 0])).run Tryd.prog w = .ok true w := heq
  have ha := alive_run w hV
  go_enter Tryd.func8, Tryd.ntmps8
  go_wp2_with (first
    | (go_at_call 15; go_must (refine (write_nil a n c _).mono ?_); rintro e w' ⟨rfl, rfl⟩)
    | (go_at_call 9; go_must (refine ha.mono ?_); rintro e w1 ⟨rfl, hb1⟩)
    | (go_at_call 16; go_must (refine (hsum_nil _).mono ?_); rintro e w2 ⟨rfl, hb2⟩)
    | (go_at_call 18; go_must (refine (tree_nil _).mono ?_); rintro e w3 ⟨rfl, hb3⟩))
  go_ret
  have h1 := hb1.size
  have h2 := hb2.size
  exact ⟨rfl, (hb1.trans (hb2.mono h1)).trans (hb3.mono (Nat.le_trans h1 h2))⟩
end Go.Proofs.YtekndbdcidlfpaaDoor
