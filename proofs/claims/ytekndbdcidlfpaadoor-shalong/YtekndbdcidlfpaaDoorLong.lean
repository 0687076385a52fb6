/-
  The law ShaLong: its walk.
-/
import Derived.Test.YtekndbdcidlfpaaDoorAlive
import Derived.Test.YtekndbdcidlfpaaDoorArrEq
import Derived.Test.YtekndbdcidlfpaaDoorRSum
namespace Go.Proofs.YtekndbdcidlfpaaDoor
set_option linter.unusedSimpArgs false
set_option linter.unusedVariables false
open Go.RowKit

theorem and2047 (n : Int) (h1 : -9223372036854775808 ≤ n) (h2 : n ≤ 9223372036854775807) : ∃ m : Nat, m < 2048 ∧ bits .and .i64 n 2047 = (m : Int) := by
  refine ⟨(BitVec.ofInt 64 n &&& BitVec.ofInt 64 2047).toNat, ?_, ?_⟩
  · rw [BitVec.toNat_and, show (BitVec.ofInt 64 2047).toNat = 2 ^ 11 - 1 by decide, Nat.and_two_pow_sub_one_eq_mod]
    exact Nat.mod_lt _ (by decide)
  · have hlt : (BitVec.ofInt 64 n &&& BitVec.ofInt 64 2047).toNat < 2048 := by
      rw [BitVec.toNat_and, show (BitVec.ofInt 64 2047).toNat = 2 ^ 11 - 1 by decide, Nat.and_two_pow_sub_one_eq_mod]
      exact Nat.mod_lt _ (by decide)
    show IntKind.i64.wrap ((BitVec.ofInt 64 n &&& BitVec.ofInt 64 2047).toNat : Nat) = _
    rw [IntKind.wrap_i64]
    omega

set_option maxRecDepth 100000 in
set_option maxHeartbeats 2000000 in
theorem long_walk (b : Int) (n : Int) (hb0 : 0 ≤ b ∧ b ≤ 255) (h1 : -9223372036854775808 ≤ n) (h2 : n ≤ 9223372036854775807) (w : World) (hV : Vars w) :
    Calls Tryd.prog 6 #[.int .u8 b, .int .i64 n] w fun e w' => e = .returned (.bool true) ∧ Below w.heap.size w w' := by
  obtain ⟨i0, hi, hz0, hz1, hz2⟩ : ∃ i, Tryd.prog.info? 5 = some i ∧ i.zero = some (.int .u8 0) ∧ i.size = 1 ∧ i.bytes = 1 := ⟨_, rfl, rfl, rfl, rfl⟩
  obtain ⟨m, hm, hand⟩ := and2047 n h1 h2
  have hsr := fun k hk => index_run (P := Tryd.prog) 22 5 Tryd.underlying22 (by kernel_rfl) (by kernel_rfl) w.heap.size 0 m m .i64 k hk
  go_enter Tryd.func6, Tryd.ntmps6
  go_wp2_with (at_make; go_must (refine wpList_make_bytes (w0 := w) (by rfl) _ _ 22 (by rfl) w.heap.size 5 i0 Tryd.underlying22 hi hz0 hz1 hz2 _ _ _ _ m (by rfl) (by rfl) (by omega) (by omega) (by omega) (Nat.le_refl _) (Below.refl _ _) ?_); intro w1 hrow1 hb1)
  go_loopw [6] (fun i wr => ∃ k : Nat, k ≤ m ∧ i = .int .i64 k ∧ Row 5 wr w.heap.size (List.replicate k b ++ List.replicate (m - k) 0) ∧ Below w.heap.size w wr) (fun i _ => m - (intOf i).toNat)
  case atStart => exact ⟨0, by omega, rfl, by simpa using hrow1, hb1⟩
  case round =>
    clear hrow1 hb1
    rename_i hrel
    obtain ⟨k, hk, rfl, hrow, hbel⟩ := hrel
    by_cases hlt : k < m
    · obtain ⟨z, hz⟩ : ∃ z, wr.cell? ⟨w.heap.size, k, none⟩ = some (.int .u8 z) := ⟨_, hrow.cell k (by simp; omega)⟩
      have fz := hrow.free k
      have hx1 := hsr k hlt
      rw [Nat.zero_add] at hx1
      have bk : (k : Int) < (m : Int) := by omega
      clear hsr
      go_wp2
      go_roundw
      case rel =>
        refine ⟨k + 1, by omega, by go_num, ?_, hbel.setCell (Nat.le_refl _) _⟩
        have h3 := hrow.set k b
        rw [show m - k = (m - (k + 1)) + 1 by omega, List.replicate_succ, set_at _ _ _ _ _ (by simp), ← List.replicate_succ'] at h3
        exact h3
      case measure => simp [intOf]; omega
    · obtain ⟨L, hL⟩ : ∃ L, L = List.replicate m b := ⟨_, rfl⟩
      have hrL : Row 5 wr w.heap.size L := by
        have e : k = m := by omega
        rw [e, Nat.sub_self, List.replicate_zero, List.append_nil] at hrow
        rw [hL]; exact hrow
      have hLl : L.length = m := by rw [hL]; simp
      have hBL : Bs wr (some ⟨w.heap.size, 0, none⟩) m L := by
        have h3 := hrL.bs (fun x hx => by rw [hL] at hx; rw [List.eq_of_mem_replicate hx]; exact hb0) (by rw [hLl]; unfold maxLen; omega)
        rw [hLl] at h3
        exact h3
      have hVr := hV.stays hbel
      have hal := alive_run wr hVr
      have heq := equal_same (P := Tryd.prog) Tryd.underlying23 Tryd.underlying5 (by kernel_rfl) (shaOf L) (shaOf_length _)
      have hs1 : ∀ u, Below wr.heap.size wr u → Calls Tryd.prog 10 #[.slice (some ⟨w.heap.size, 0, none⟩) m m] u fun e w' => e = .returned (.agg ((shaOf L).map (Value.int .u8)).toArray) ∧ Below u.heap.size u w' := fun u hu => by
        have h3 := sum_run (some ⟨w.heap.size, 0, none⟩) m L u (hBL.stays hu) (hVr.stays hu) (by rw [hLl]; omega)
        rw [hLl] at h3
        exact h3
      have hs2 : ∀ u, Below wr.heap.size wr u → Calls Tryd.prog 11 #[.slice (some ⟨w.heap.size, 0, none⟩) m m] u fun e w' => e = .returned (.agg ((shaOf L).map (Value.int .u8)).toArray) ∧ Below u.heap.size u w' := fun u hu => by
        have h3 := rsum_run (some ⟨w.heap.size, 0, none⟩) m L u (hBL.stays hu) (by rw [hLl]; omega)
        rw [hLl] at h3
        exact h3
      have hsz := hbel.size
      have hnl : ¬ (k : Int) < (m : Int) := by omega
      clear hrow hrL hL hLl hsr hlt
      go_wp2_with (first
        | (go_at_call 9; go_must (refine hal.mono ?_); rintro e w2 ⟨rfl, hb2⟩)
        | (go_at_call 10; go_must (refine (hs1 w2 hb2).mono ?_); rintro e w3 ⟨rfl, hb3⟩; have hb23 : Below wr.heap.size wr w3 := hb2.trans (hb3.mono hb2.size))
        | (go_at_call 11; go_must (refine (hs2 w3 hb23).mono ?_); rintro e w4 ⟨rfl, hb4⟩))
      go_ret
      exact ⟨rfl, (hbel.trans (hb23.mono hsz)).trans (hb4.mono (Nat.le_trans hsz hb23.size))⟩
end Go.Proofs.YtekndbdcidlfpaaDoor
