/-
  Package space: the live question, and no map.
-/
import Derived.Test.YtfmfjaokpnadaaaSpTake
namespace Go.Proofs.Ytfmfjaokpnadaaa
set_option linter.unusedSimpArgs false
set_option linter.unusedVariables false
open Go.RowKit

theorem alive_take : takeL (lab 16 4) 2 = (lab 16 6, [4, 5], 0) := by decide +kernel
theorem alive_full : takeL (lab 16 6) 9 = (lab 16 6, [], 1) := by decide +kernel
theorem alive_free : freeN (lab 16 6) = 10 := by decide +kernel

set_option maxRecDepth 100000 in
theorem alive_run (w : World) : Calls Try.prog 25 #[] w fun e w' => e = .returned (.bool true) ∧ Below w.heap.size w w' := by
  have HNEW : Hid (∀ u, Calls Try.prog 8 #[.int .i64 16] u fun e w' => e = .returned (.tuple #[.pointer (some ⟨u.heap.size, 0, none⟩), .int .i64 0]) ∧ Mp w' u.heap.size (lab 16 4) ∧ Below u.heap.size u w') := fun u => new_run 16 (by omega) (by omega) u
  have HT2 : Hid (∀ u, Mp u w.heap.size (lab 16 4) → Calls Try.prog 12 #[.pointer (some ⟨w.heap.size, 0, none⟩), .int .i64 2] u fun e w' => ∃ v, e = .returned (.tuple #[v, .int .i64 0]) ∧ Nums u.heap.size w' v [4, 5] ∧ Mp w' w.heap.size (lab 16 6) ∧ But w.heap.size u w') := fun u hu => by
    have := take_run 2 u hu
    rw [alive_take] at this
    exact this
  have HT9 : Hid (∀ u, Mp u w.heap.size (lab 16 6) → Calls Try.prog 12 #[.pointer (some ⟨w.heap.size, 0, none⟩), .int .i64 9] u fun e w' => e = .returned (.tuple #[.slice none 0 0, .int .i64 1]) ∧ w' = u) := fun u hu => take_bad _ 9 (by omega) u
  have HF : Hid (∀ u, Mp u w.heap.size (lab 16 6) → Calls Try.prog 21 #[.pointer (some ⟨w.heap.size, 0, none⟩)] u fun e w' => e = .returned (.int .i64 10) ∧ w' = u) := fun u hu => by
    have := free_run u hu
    rw [alive_free] at this
    exact this
  have HCE : Hid (∀ (base : Nat) (u : World) (v : Value), Nums base u v [4, 5] → ∃ b c, v = .slice (some ⟨b, 0, none⟩) 2 c ∧ u.cell? ⟨b, 0, none⟩ = some (.int .u32 4) ∧ u.cell? ⟨b, 1, none⟩ = some (.int .u32 5)) := fun base u v hv => by
    obtain ⟨a, c, rfl⟩ := hv.form
    obtain ⟨_, hu⟩ := hv.us (by simp)
    rcases hv.2 with ⟨he, hz⟩ | ⟨g, cap, cur, he, hg, hh, h1, h2, h3, h4⟩
    · simp at hz
    · simp only [Value.slice.injEq] at he
      obtain ⟨rfl, h5, rfl⟩ := he
      rcases hu.lay with h0 | ⟨b, off, h6, h7⟩
      · simp at h0
      · simp only [Option.some.injEq, Addr.mk.injEq] at h6
        obtain ⟨rfl, rfl, _⟩ := h6
        exact ⟨g, _, rfl, h7 0 (by simp), h7 1 (by simp)⟩
  go_enter Try.func25, Try.ntmps25
  go_wp2_with (first
    | (go_at_call 8; refine (HNEW.out _).mono ?_; rintro e w1 ⟨rfl, hP1, hb1⟩)
    | (go_at_call_of 12 (Value.int .i64 2); refine (HT2.out _ hP1).mono ?_; rintro e w2 ⟨v2, rfl, hN2, hP2, hbut2⟩; obtain ⟨b2, c2, hv2, hc0, hc1⟩ := HCE.out _ _ _ hN2; rw [hv2])
    | (go_at_call_of 12 (Value.int .i64 9); refine (HT9.out _ hP2).mono ?_; rintro e w3 ⟨rfl, rfl⟩)
    | (go_at_call 21; refine (HF.out _ hP2).mono ?_; rintro e w4 ⟨rfl, rfl⟩))
  go_ret
  exact ⟨rfl, hb1.trans (hbut2.below (Nat.le_refl _) hb1.size)⟩

set_option maxRecDepth 100000 in
theorem nil_walk (n : Int) (at' : Nat) (ha : at' < 4294967296) (w : World) : Calls Try.prog 7 #[.int .i64 n, .int .u32 (at' : Int)] w fun e w' => e = .returned (.bool true) ∧ Below w.heap.size w w' := by
  have HT : Hid (∀ u, Calls Try.prog 12 #[.pointer none, .int .i64 n] u fun e w' => e = .returned (.tuple #[.slice none 0 0, .int .i64 1]) ∧ w' = u) := fun u => take_bad none n (.inr (.inr rfl)) u
  have HK : Hid (∀ (b c : Nat) u, Calls Try.prog 16 #[.pointer none, .slice (some ⟨b, 0, none⟩) 1 c] u fun e w' => e = .returned (.tuple #[]) ∧ w' = u) := fun b c u => keep_nil _ _ _ u
  have HG : Hid (∀ u, Calls Try.prog 14 #[.pointer none, .int .u32 (at' : Int)] u fun e w' => e = .returned (.int .i64 1) ∧ w' = u) := fun u => give_nil at' ha u
  have HU : Hid (∀ u, Calls Try.prog 19 #[.pointer none, .int .i64 n] u fun e w' => e = .returned (.bool true) ∧ w' = u) := fun u => used_nil n u
  go_enter Try.func7, Try.ntmps7
  go_wp2_with (first
    | (go_at_call 12; refine (HT.out _).mono ?_; rintro e w1 ⟨rfl, rfl⟩)
    | (go_at_call 16; refine (HK.out _ _ _).mono ?_; rintro e w2 ⟨rfl, hw2⟩)
    | (go_at_call 25; refine (alive_run _).mono ?_; rintro e w3 ⟨rfl, hb3⟩)
    | (go_at_call 14; refine (HG.out _).mono ?_; rintro e w4 ⟨rfl, rfl⟩)
    | (go_at_call 19; refine (HU.out _).mono ?_; rintro e w5 ⟨rfl, rfl⟩)
    | (go_at_call 21; refine (free_nil _).mono ?_; rintro e w6 ⟨rfl, rfl⟩)
    | (go_at_call 24; refine (len_nil _).mono ?_; rintro e w7 ⟨rfl, rfl⟩)
    | (go_at_call 11; refine (bytes_nil _).mono ?_; rintro e w8 ⟨rfl, rfl⟩)
    | (go_at_call 10; refine (copy_nil _).mono ?_; rintro e w9 ⟨rfl, rfl⟩))
  go_ret
  refine ⟨rfl, ?_⟩
  exact ((Below.refl _ _).alloc (Nat.le_refl _) _).trans (hb3.mono (by simp))
end Go.Proofs.Ytfmfjaokpnadaaa
