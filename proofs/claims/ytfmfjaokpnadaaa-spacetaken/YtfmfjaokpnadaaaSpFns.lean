/-
  Package space: the small functions.
-/
import Derived.Test.YtfmfjaokpnadaaaArr2
import Derived.Test.YtfmfjaokpnadaaaSpBits
import Derived.Test.YtfmfjaokpnadaaaRows
import Derived.Laws.BitsAllLaws
import Derived.Laws.ShiftsVarLaws
import Derived.Deep.QuietTactic
import Derived.BigQuiet
import Derived.Laws.Bits128
namespace Go.Proofs.Ytfmfjaokpnadaaa
set_option linter.unusedSimpArgs false
set_option linter.unusedVariables false
open Go.RowKit

theorem wrap_nat (n : Nat) (h : n < 18446744073709551616) : IntKind.u64.wrap (n : Int) = (n : Int) := by
  rw [show IntKind.u64.wrap (n : Int) = (n : Int) % 18446744073709551616 by simp [IntKind.wrap, IntKind.bits, IntKind.signed]]; omega

theorem ones_run (x : Nat) (hx : x < 18446744073709551616) (w : World) : Calls Try.prog 33 #[.int .u64 (x : Int)] w fun e w' => e = .returned (.int .i64 ((pop 64 x : Nat) : Int)) ∧ w' = w := by
  obtain ⟨y1, e1, b1, v1⟩ : ∃ y1 : Nat, IntKind.u64.wrap (bits .and .u64 ((x : Int) / 2) 6148914691236517205 + bits .and .u64 (x : Int) 6148914691236517205) = (y1 : Int) ∧ y1 < 12297829382473034411 ∧ Hid (p1 m0 x = y1) := by
    have a1 := Nat.and_le_right (n := x / 2) (m := m0)
    have a2 := Nat.and_le_right (n := x) (m := m0)
    refine ⟨p1 m0 x, ?_, by unfold p1 m0 at *; omega, rfl⟩
    have f1 := u64_and_nat (x / 2) m0 (by omega) (by decide)
    have f2 := u64_and_nat x m0 hx (by decide)
    rw [Int.natCast_ediv] at f1
    unfold m0 at f1 f2 a1 a2
    rw [show ((2 : Nat) : Int) = 2 from rfl] at f1
    rw [show ((6148914691236517205 : Nat) : Int) = 6148914691236517205 from rfl] at f1 f2
    rw [f1, f2, ← Int.natCast_add, wrap_nat _ (by omega)]
    rfl
  obtain ⟨y2, e2, b2, v2⟩ : ∃ y2 : Nat, IntKind.u64.wrap (bits .and .u64 ((y1 : Int) / 4) 3689348814741910323 + bits .and .u64 (y1 : Int) 3689348814741910323) = (y2 : Int) ∧ y2 < 7378697629483820647 ∧ Hid (p2 m1 y1 = y2) := by
    have a1 := Nat.and_le_right (n := y1 / 4) (m := m1)
    have a2 := Nat.and_le_right (n := y1) (m := m1)
    refine ⟨p2 m1 y1, ?_, by unfold p2 m1 at *; omega, rfl⟩
    have f1 := u64_and_nat (y1 / 4) m1 (by omega) (by decide)
    have f2 := u64_and_nat y1 m1 (by omega) (by decide)
    rw [Int.natCast_ediv] at f1
    unfold m1 at f1 f2 a1 a2
    rw [show ((4 : Nat) : Int) = 4 from rfl] at f1
    rw [show ((3689348814741910323 : Nat) : Int) = 3689348814741910323 from rfl] at f1 f2
    rw [f1, f2, ← Int.natCast_add, wrap_nat _ (by omega)]
    rfl
  obtain ⟨y3, e3, b3, v3⟩ : ∃ y3 : Nat, bits .and .u64 ((y2 : Int) / 16 + (y2 : Int)) 1085102592571150095 = (y3 : Int) ∧ y3 < 1085102592571150096 ∧ Hid ((y2 / 16 + y2) &&& m2 = y3) := by
    have a1 := Nat.and_le_right (n := y2 / 16 + y2) (m := m2)
    refine ⟨(y2 / 16 + y2) &&& m2, ?_, by unfold m2 at *; omega, rfl⟩
    have f1 := u64_and_nat (y2 / 16 + y2) m2 (by omega) (by decide)
    exact f1
  obtain ⟨y4, e4, b4, v4⟩ : ∃ y4 : Nat, IntKind.u64.wrap ((y3 : Int) + (y3 : Int) / 256) = (y4 : Int) ∧ y4 < 1085102592571150096 * 2 ∧ Hid (y3 + y3 / 256 = y4) := by
    refine ⟨y3 + y3 / 256, ?_, by omega, rfl⟩
    exact wrap_nat (y3 + y3 / 256) (by omega)
  obtain ⟨y5, e5, b5, v5⟩ : ∃ y5 : Nat, IntKind.u64.wrap ((y4 : Int) + (y4 : Int) / 65536) = (y5 : Int) ∧ y5 < 1085102592571150096 * 3 ∧ Hid (y4 + y4 / 65536 = y5) := by
    refine ⟨y4 + y4 / 65536, ?_, by omega, rfl⟩
    exact wrap_nat (y4 + y4 / 65536) (by omega)
  obtain ⟨y6, e6, b6, v6⟩ : ∃ y6 : Nat, IntKind.u64.wrap ((y5 : Int) + (y5 : Int) / 4294967296) = (y6 : Int) ∧ y6 < 1085102592571150096 * 4 ∧ Hid (y5 + y5 / 4294967296 = y6) := by
    refine ⟨y5 + y5 / 4294967296, ?_, by omega, rfl⟩
    exact wrap_nat (y5 + y5 / 4294967296) (by omega)
  have hend : pop 64 x = y6 % 128 := by
    rw [← swar_pop x hx, ← v6.out, ← v5.out, ← v4.out, ← v3.out, ← v2.out, ← v1.out]
    rfl
  rw [hend]
  go_enter Try.func33, Try.ntmps33
  go_wp2
  go_ret
  refine ⟨?_, rfl⟩
  simp [i64_and127]

theorem bit_run (i : Nat) (hi : i < 4294967296) (w : World) : Calls Try.prog 32 #[.int .i64 (i : Int)] w fun e w' => e = .returned (.int .u64 ((2 ^ (i % 64) : Nat) : Int)) ∧ w' = w := by
  go_enter Try.func32, Try.ntmps32
  go_wp2
  go_ret
  have hw := wrap_nat (2 ^ (i % 64)) (Nat.lt_of_lt_of_le (Nat.pow_lt_pow_right (by decide) (show i % 64 < 64 by omega)) (by decide))
  rw [Int.natCast_pow, show ((2 : Nat) : Int) = 2 from rfl] at hw
  refine ⟨?_, rfl⟩
  simp only [hw]
  simp

theorem may_run (n : Int) (w : World) : Calls Try.prog 28 #[.int .i64 n] w fun e w' => e = .returned (.bool (decide (16 ≤ n ∧ n ≤ 512))) ∧ w' = w := by
  by_cases h1 : 16 ≤ n
  · go_enter Try.func28, Try.ntmps28
    go_wp2
    go_ret
    refine ⟨?_, rfl⟩
    simp [h1]
  · go_enter Try.func28, Try.ntmps28
    go_wp2
    go_ret
    refine ⟨?_, rfl⟩
    simp [h1]
    omega

theorem isLabel_run (i : Int) (w : World) : Calls Try.prog 31 #[.int .i64 i] w fun e w' => e = .returned (.bool (decide (i < 4))) ∧ w' = w := by
  go_enter Try.func31, Try.ntmps31
  go_wp2
  go_ret
  exact ⟨rfl, rfl⟩
end Go.Proofs.Ytfmfjaokpnadaaa
