/-
  The hash's bytes are bytes.
-/
import Derived.Test.YteocmmmnfbabaaaDoorBlocks
namespace Go.Proofs.YteocmmmnfbabaaaDoor
set_option linter.unusedSimpArgs false
set_option linter.unusedVariables false
open Go.RowKit

theorem bytes4_rng (n : Nat) (hn : n < 4294967296) : ∀ x ∈ bytes4 n, 0 ≤ x ∧ x ≤ 255 := by
  intro x hx
  simp only [bytes4, List.mem_cons, List.not_mem_nil, or_false] at hx
  rcases hx with rfl | rfl | rfl | rfl <;> omega

theorem shaOf_rng (xs : List Int) : ∀ x ∈ shaOf xs, 0 ≤ x ∧ x ≤ 255 := by
  intro x hx
  unfold shaOf S8.bytes at hx
  obtain ⟨n, hn, hxn⟩ := List.mem_flatMap.1 hx
  refine bytes4_rng n ?_ x hxn
  have hok := hashed_ok (xs ++ padOf xs.length)
  simp only [S8.list, List.mem_cons, List.not_mem_nil, or_false] at hn
  rcases hn with rfl | rfl | rfl | rfl | rfl | rfl | rfl | rfl
  · exact hok.a
  · exact hok.b
  · exact hok.c
  · exact hok.d
  · exact hok.e
  · exact hok.f
  · exact hok.g
  · exact hok.h

end Go.Proofs.YteocmmmnfbabaaaDoor
