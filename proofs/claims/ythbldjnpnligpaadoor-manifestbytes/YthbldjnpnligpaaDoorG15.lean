/-
  The document's Take.
-/
import Derived.Test.YthbldjnpnligpaaDoorG14
import Derived.Test.YthbldjnpnligpaaDoorG01
import Derived.Test.YthbldjnpnligpaaDoorRows
import Derived.Laws.BitsAllLaws
import Derived.Laws.ShiftsVarLaws
import Derived.Deep.QuietTactic
import Derived.BigQuiet
namespace Go.Proofs.YthbldjnpnligpaaDoor
set_option linter.unusedSimpArgs false
set_option linter.unusedVariables false
set_option maxRecDepth 100000
open Go.RowKit

theorem Nums.mono {B B' : Nat} {w : World} {v : Value} {xs : List Nat} (h : Nums B w v xs) (hB : B' ≤ B) : Nums B' w v xs := by
  obtain ⟨h1, h2⟩ := h
  refine ⟨h1, ?_⟩
  rcases h2 with h2 | ⟨g, cap, cur, hv, hb, rest⟩
  · exact .inl h2
  · exact .inr ⟨g, cap, cur, hv, Nat.le_trans hB hb, rest⟩

section
variable {g c : Nat} {l : List Bool}

end
end Go.Proofs.YthbldjnpnligpaaDoor

/-
  The document's Take: one contract.
-/

namespace Go.Proofs.YthbldjnpnligpaaDoor
set_option linter.unusedSimpArgs false
set_option linter.unusedVariables false
set_option maxRecDepth 100000
open Go.RowKit

theorem blk_ne {e e' : TypeId} {w : World} {g g' : Nat} {vs vs' : List Value} (h : Blk e w g vs) (h' : Blk e' w g' vs') (hne : e ≠ e') : g ≠ g' := by
  rintro rfl
  unfold Blk at *
  rw [h] at h'
  simp at h'
  exact hne h'.2

theorem takeL_rng (l : List Bool) (k : Int) (hl : l.length ≤ 512) : ∀ x ∈ (takeL l k).2.1, x < 4294967296 := by
  unfold takeL
  split
  · simp
  · split
    · simp
    · intro x hx
      have := (Fr_mem.1 (List.mem_of_mem_take hx)).1
      omega

section
variable {g c : Nat} {l : List Bool}

end

end Go.Proofs.YthbldjnpnligpaaDoor

/-
  Package sha: turned numbers.
-/

namespace Go.Proofs.YthbldjnpnligpaaDoor
set_option linter.unusedSimpArgs false
set_option linter.unusedVariables false
set_option maxRecDepth 100000
open Go.RowKit

/-- x turned right by n. -/
def rotr (x n : Nat) : Nat := (x * 2 ^ (32 - n) % 4294967296) ||| (x / 2 ^ n)

theorem rotr_lt (x n : Nat) (hx : x < 4294967296) : rotr x n < 4294967296 := by
  unfold rotr
  apply Nat.or_lt_two_pow (n := 32)
  · exact Nat.mod_lt _ (by decide)
  · exact Nat.lt_of_le_of_lt (Nat.div_le_self _ _) hx

theorem xor_lt (a b : Nat) (ha : a < 4294967296) (hb : b < 4294967296) : a ^^^ b < 4294967296 := Nat.xor_lt_two_pow (n := 32) ha hb
theorem and_lt' (a b : Nat) (ha : a < 4294967296) : a &&& b < 4294967296 := Nat.lt_of_le_of_lt Nat.and_le_left ha
theorem div_lt' (a b : Nat) (ha : a < 4294967296) : a / b < 4294967296 := Nat.lt_of_le_of_lt (Nat.div_le_self _ _) ha

def s0 (x : Nat) : Nat := (rotr x 7 ^^^ rotr x 18) ^^^ x / 8
def s1 (x : Nat) : Nat := (rotr x 17 ^^^ rotr x 19) ^^^ x / 1024
def g0 (x : Nat) : Nat := (rotr x 2 ^^^ rotr x 13) ^^^ rotr x 22
def g1 (x : Nat) : Nat := (rotr x 6 ^^^ rotr x 11) ^^^ rotr x 25

theorem rotateLeft_run (x n : Nat) (hx : x < 4294967296) (h1 : 1 ≤ n) (h2 : n ≤ 31) (w : World) :
    Calls Tryd.prog 177 #[.int .u32 (x : Int), .int .i64 (-(n : Int))] w fun e w' => e = .returned (.int .u32 (rotr x n : Nat)) ∧ w' = w := by
  have hc : IntKind.u64.wrap (-(n : Int)) = 18446744073709551616 - n := by
    simp [IntKind.wrap, IntKind.bits, IntKind.signed]; omega
  have hs : bits .and .u64 (18446744073709551616 - (n : Int)) 31 = ((32 - n : Nat) : Int) := by
    have h := u64_and (18446744073709551616 - (n : Int)) 31 (by omega) (by omega) (by decide) (by decide)
    rw [h]
    have e : (18446744073709551616 - (n : Int)).toNat = 18446744073709551616 - n := by omega
    rw [e]
    have e2 : (31 : Int).toNat = 2 ^ 5 - 1 := rfl
    rw [e2, Nat.and_two_pow_sub_one_eq_mod]
    congr 1
    omega
  have ho : bits BinOp.or IntKind.u32 ((x : Int) * 2 ^ (32 - n) % 4294967296) ((x : Int) / 2 ^ (32 - (32 - n))) = ((rotr x n : Nat) : Int) := by
    have e1 : (x : Int) * 2 ^ (32 - n) % 4294967296 = ((x * 2 ^ (32 - n) % 4294967296 : Nat) : Int) := by rw [Int.natCast_emod, Int.natCast_mul, Int.natCast_pow]; rfl
    have e2 : (x : Int) / 2 ^ (32 - (32 - n)) = ((x / 2 ^ n : Nat) : Int) := by
      rw [show 32 - (32 - n) = n by omega, Int.natCast_ediv, Int.natCast_pow]; rfl
    rw [e1, e2, u32_or_nat _ _ (Nat.mod_lt _ (Nat.zero_lt_of_lt hx)) (div_lt' _ _ hx)]
    rfl
  go_enter Tryd.func177, Tryd.ntmps177
  go_wp2
  go_ret
  exact ⟨rfl, rfl⟩

theorem rotated_run (x n : Nat) (hx : x < 4294967296) (h1 : 1 ≤ n) (h2 : n ≤ 31) (w : World) :
    Calls Tryd.prog 176 #[.int .u32 (x : Int), .int .i64 (n : Int)] w fun e w' => e = .returned (.int .u32 (rotr x n : Nat)) ∧ w' = w := by
  go_enter Tryd.func176, Tryd.ntmps176
  go_wp2_with (go_at_call 177; go_must (refine (rotateLeft_run x n hx h1 h2 _).mono ?_); rintro e w' ⟨rfl, rfl⟩)
  go_ret
  exact ⟨rfl, rfl⟩

theorem rotated_by (x : Nat) (m : Int) (hx : x < 4294967296) (h1 : 1 ≤ m) (h2 : m ≤ 31) (w : World) :
    Calls Tryd.prog 176 #[.int .u32 (x : Int), .int .i64 m] w fun e w' => e = .returned (.int .u32 (rotr x m.toNat : Nat)) ∧ w' = w := by
  have h := rotated_run x m.toNat hx (by omega) (by omega) w
  rw [Int.toNat_of_nonneg (by omega)] at h
  exact h

theorem small0_run (x : Nat) (hx : x < 4294967296) (w : World) :
    Calls Tryd.prog 175 #[.int .u32 (x : Int)] w fun e w' => e = .returned (.int .u32 (s0 x : Nat)) ∧ w' = w := by
  obtain ⟨y, hy⟩ : ∃ y, y = x / 8 := ⟨_, rfl⟩
  have hyl : y < 4294967296 := hy ▸ div_lt' _ _ hx
  have e1 := u32_xor_nat (rotr x 7) (rotr x 18) (rotr_lt _ _ hx) (rotr_lt _ _ hx)
  have e2 := u32_xor_nat ((rotr x 7) ^^^ (rotr x 18)) y (xor_lt _ _ (rotr_lt _ _ hx) (rotr_lt _ _ hx)) hyl
  have e3 : (x : Int) / 8 = (y : Int) := by omega
  have HY : Hid (y = x / 8) := hy
  clear hy
  go_enter Tryd.func175, Tryd.ntmps175
  go_wp2_with (go_at_call 176; go_must (refine (rotated_by x _ hx (by decide) (by decide) _).mono ?_); rintro e w' ⟨rfl, rfl⟩)
  go_ret
  exact ⟨by rw [HY.out]; rfl, rfl⟩

theorem small1_run (x : Nat) (hx : x < 4294967296) (w : World) :
    Calls Tryd.prog 174 #[.int .u32 (x : Int)] w fun e w' => e = .returned (.int .u32 (s1 x : Nat)) ∧ w' = w := by
  obtain ⟨y, hy⟩ : ∃ y, y = x / 1024 := ⟨_, rfl⟩
  have hyl : y < 4294967296 := hy ▸ div_lt' _ _ hx
  have e1 := u32_xor_nat (rotr x 17) (rotr x 19) (rotr_lt _ _ hx) (rotr_lt _ _ hx)
  have e2 := u32_xor_nat ((rotr x 17) ^^^ (rotr x 19)) y (xor_lt _ _ (rotr_lt _ _ hx) (rotr_lt _ _ hx)) hyl
  have e3 : (x : Int) / 1024 = (y : Int) := by omega
  have HY : Hid (y = x / 1024) := hy
  clear hy
  go_enter Tryd.func174, Tryd.ntmps174
  go_wp2_with (go_at_call 176; go_must (refine (rotated_by x _ hx (by decide) (by decide) _).mono ?_); rintro e w' ⟨rfl, rfl⟩)
  go_ret
  exact ⟨by rw [HY.out]; rfl, rfl⟩

theorem great0_run (x : Nat) (hx : x < 4294967296) (w : World) :
    Calls Tryd.prog 173 #[.int .u32 (x : Int)] w fun e w' => e = .returned (.int .u32 (g0 x : Nat)) ∧ w' = w := by
  have e1 := u32_xor_nat (rotr x 2) (rotr x 13) (rotr_lt _ _ hx) (rotr_lt _ _ hx)
  have e2 := u32_xor_nat ((rotr x 2) ^^^ (rotr x 13)) (rotr x 22) (xor_lt _ _ (rotr_lt _ _ hx) (rotr_lt _ _ hx)) (rotr_lt _ _ hx)
  go_enter Tryd.func173, Tryd.ntmps173
  go_wp2_with (go_at_call 176; go_must (refine (rotated_by x _ hx (by decide) (by decide) _).mono ?_); rintro e w' ⟨rfl, rfl⟩)
  go_ret
  exact ⟨rfl, rfl⟩

theorem great1_run (x : Nat) (hx : x < 4294967296) (w : World) :
    Calls Tryd.prog 172 #[.int .u32 (x : Int)] w fun e w' => e = .returned (.int .u32 (g1 x : Nat)) ∧ w' = w := by
  have e1 := u32_xor_nat (rotr x 6) (rotr x 11) (rotr_lt _ _ hx) (rotr_lt _ _ hx)
  have e2 := u32_xor_nat ((rotr x 6) ^^^ (rotr x 11)) (rotr x 25) (xor_lt _ _ (rotr_lt _ _ hx) (rotr_lt _ _ hx)) (rotr_lt _ _ hx)
  go_enter Tryd.func172, Tryd.ntmps172
  go_wp2_with (go_at_call 176; go_must (refine (rotated_by x _ hx (by decide) (by decide) _).mono ?_); rintro e w' ⟨rfl, rfl⟩)
  go_ret
  exact ⟨rfl, rfl⟩

end Go.Proofs.YthbldjnpnligpaaDoor
