/-
  The walk over num.short: it hands back the short number's bytes in new memory.
-/
import Derived.Test.YtiofpkkbejnjcaaProg
import Derived.Test.YtiofpkkbejnjcaaBase
import Derived.Test.YtiofpkkbejnjcaaSpec
namespace Go.Proofs.Ytiofpkkbejnjcaa
set_option linter.unusedSimpArgs false
set_option linter.unusedVariables false
open Go.RowKit

theorem Try.info5 : (Try.prog.info? 5).map (fun i => (i.zero, i.size, i.bytes)) = some (some (.int .u8 0), 1, 1) := by kernel_rfl

theorem rng_snoc {xs : List Int} {y : Int} (h : ∀ x ∈ xs, 0 ≤ x ∧ x ≤ 255) (hy : 0 ≤ y ∧ y ≤ 255) : ∀ x ∈ xs ++ [y], 0 ≤ x ∧ x ≤ 255 := by
  intro x hx
  rcases List.mem_append.1 hx with hx | hx
  · exact h x hx
  · rw [List.mem_singleton.1 hx]; exact hy

set_option maxRecDepth 100000 in
theorem short_any (n : Nat) (hn : n < 18446744073709551616) (w : World) :
    Calls Try.prog 24 #[.int .u64 n] w fun e w' => ∃ a c, e = .returned (.slice a (leb n).length c) ∧ Bs w' a c (leb n) ∧ Below w.heap.size w w' := by
  have hmk : ∀ w, (Instr.makeSlice 22 (.int .i64 0) (.int .i64 10)).run Try.prog w = .ok (.slice (some ⟨w.heap.size, 0, none⟩) 0 10) (w.alloc (.cells (Array.replicate 10 (.int .u8 0)) 5)) := fun _ => by kernel_rfl
  obtain ⟨i0, hi, hz0, hz1, hz2⟩ := info_parts Try.info5
  have hlen := leb_len10 n hn
  go_enter Try.func24, Try.ntmps24
  go_wp2
  go_loopw [0, 3] (fun m v wr => ∃ (k : Nat) (done : List Int), m = .int .u64 k ∧ k ≤ n ∧ Hid (leb n = done ++ leb k) ∧ Hid (∀ x ∈ done, 0 ≤ x ∧ x ≤ 255) ∧ wr.ownsRow w.heap.size 5 1 v done.length (done.map (Value.int .u8)) ∧ Below w.heap.size w wr)
    (fun m _ _ => (intOf m).toNat)
  case atStart => 
    refine ⟨n, [], rfl, Nat.le_refl _, rfl, (show ∀ x ∈ [], _ by simp), World.ownsRow_made w _ 10 (Nat.le_refl _) (by decide) rfl, (Below.refl _ _).alloc (Nat.le_refl _) _⟩
  case round =>
    obtain ⟨k, done, rfl, hkn, hsp, hr, hown, hb⟩ := hrel
    have hdl : done.length ≤ 10 := by have := congrArg List.length hsp.out; simp at this; omega
    have hsz := hb.size
    by_cases hk : 128 ≤ k
    · go_wp2_with (at_builtin; go_must (refine wpList_append_bytes (w0 := w) (by rfl) _ _ 22 (by rfl) w.heap.size 5 i0 Try.underlying22 hi hz0 hz1 hz2 _ done (by rfl) (hown.alloc _) (some ⟨wr.heap.size, 0, none⟩) 1 1 [(k : Int) % 128 + 128] (by rfl) (by rfl) (Bs.one _ _ ⟨by omega, by omega⟩ _) (by simp; omega) (by simp; omega) (hb.alloc (by omega) _) ?_); intro v' w1 hown1 hb1)
      go_roundw
      case rel => exact ⟨k / 128, done ++ [(k : Int) % 128 + 128], by go_num, by omega, by have := hsp.out; rw [leb_great hk] at this; show _ = _; rw [this]; simp, rng_snoc hr.out (by omega), hown1, hb1⟩
      case measure => simp [intOf]; omega
    · go_wp2_with (at_builtin; go_must (refine wpList_append_bytes (w0 := w) (by rfl) _ _ 22 (by rfl) w.heap.size 5 i0 Try.underlying22 hi hz0 hz1 hz2 _ done (by rfl) (hown.alloc _) (some ⟨wr.heap.size, 0, none⟩) 1 1 [(k : Int)] (by rfl) (by rfl) (Bs.one _ _ ⟨by omega, by omega⟩ _) (by simp; omega) (by simp; omega) (hb.alloc (by omega) _) ?_); intro v' w1 hown1 hb1)
      have hfin : leb n = done ++ [(k : Int)] := by have := hsp.out; rwa [leb_small (n := k) (by omega)] at this
      rw [← hfin] at hown1
      obtain ⟨a, c, rfl, hB⟩ := Bs.of_owns hown1 (leb_rng n)
      go_ret
      exact ⟨a, c, rfl, hB, hb1⟩
end Go.Proofs.Ytiofpkkbejnjcaa
