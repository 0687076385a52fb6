/-
  The walks of the laws DiskNil and DiskFuse.
-/
import Derived.Test.YtjcckocjinkcmaaDAlive
namespace Go.Proofs.Ytjcckocjinkcmaa
set_option linter.unusedSimpArgs false
set_option linter.unusedVariables false
open Go.RowKit

set_option maxRecDepth 100000 in
set_option maxHeartbeats 4000000 in
theorem nil_walk (i : Int) (a : Option Addr) (n c : Nat) (hn : n ≤ 9223372036854775807) (w : World) : Calls Try.prog 6 #[.int .i64 i, .slice a n c] w fun e w' => e = .returned (.bool true) ∧ Below w.heap.size w w' := by
  by_cases h300 : 300 < n
  · have h300' : (300 : Int) < (n : Int) := by omega
    go_enter Try.func6, Try.ntmps6
    go_wp2_with (go_at_call 9; refine (alive_run _).mono ?_; rintro e w1 ⟨rfl, hb1⟩)
    go_ret
    exact ⟨rfl, hb1⟩
  · have h300' : ¬ ((300 : Int) < (n : Int)) := by omega
    go_enter Try.func6, Try.ntmps6
    go_wp2_with (first
      | (go_at_call 19; refine (read_nil i _).mono ?_; rintro e w1 ⟨rfl, hb1⟩)
      | (go_at_call 15; refine (write_nil i _ _).mono ?_; rintro e w2 ⟨rfl, rfl⟩)
      | (go_at_call 16; refine (flush_nil _).mono ?_; rintro e w3 ⟨rfl, hb3⟩)
      | (go_at_call 22; refine (rot_nil i _ _).mono ?_; rintro e w4 ⟨rfl, rfl⟩)
      | (go_at_call 18; refine (crash_nil _ none 0 0 rfl _).mono ?_; rintro e w5 ⟨⟨_, rfl⟩, hb5⟩)
      | (go_at_call 20; refine (fuse_nil i _).mono ?_; rintro e w6 ⟨⟨_, rfl⟩, rfl⟩)
      | (go_at_call 9; refine (alive_run _).mono ?_; rintro e w7 ⟨rfl, hb7⟩)
      | (go_at_call 14; refine (len_nil _).mono ?_; rintro e w8 ⟨rfl, rfl⟩)
      | (go_at_call 21; refine (waits_nil _).mono ?_; rintro e w9 ⟨rfl, rfl⟩)
      | (go_at_call 12; refine (dump_nil _).mono ?_; rintro e w10 ⟨rfl, rfl⟩))
    go_ret
    refine ⟨rfl, ?_⟩
    have h1 := hb1.trans (hb3.mono hb1.size)
    have h2 := h1.trans (hb5.mono h1.size)
    exact h2.trans (hb7.mono h2.size)

end Go.Proofs.Ytjcckocjinkcmaa
