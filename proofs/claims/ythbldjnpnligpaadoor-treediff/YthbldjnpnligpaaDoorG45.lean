/-
  What the cells that are unlike say of two volumes.
-/
import Derived.Test.YthbldjnpnligpaaDoorG44
namespace Go.Proofs.YthbldjnpnligpaaDoor
set_option linter.unusedSimpArgs false
set_option linter.unusedVariables false
set_option maxRecDepth 100000
open Go.RowKit

theorem unlikeL_mem {p q : List Pt} {leaf m d : Nat} : d ∈ unlikeL p q leaf m ↔ ∃ c, c < m ∧ d = leaf * 4 + c ∧ (nth p c).same (nth q c) = false := by
  unfold unlikeL
  rw [List.mem_flatMap]
  constructor
  · rintro ⟨c, hc, hd⟩
    cases hs : (nth p c).same (nth q c)
    · rw [hs] at hd
      exact ⟨c, List.mem_range.1 hc, by simpa using hd, hs⟩
    · rw [hs] at hd; simp at hd
  · rintro ⟨c, hc, rfl, hs⟩
    exact ⟨c, List.mem_range.2 hc, by rw [hs]; simp⟩
theorem diffsL_mem {C : Nat → List Pt × List Pt} {k d : Nat} : d ∈ diffsL C k ↔ ∃ j, j < k ∧ ∃ c, c < 4 ∧ d = j * 4 + c ∧ (nth (C j).1 c).same (nth (C j).2 c) = false := by
  unfold diffsL
  rw [List.mem_flatMap]
  constructor
  · rintro ⟨j, hj, hd⟩
    exact ⟨j, List.mem_range.1 hj, unlikeL_mem.1 hd⟩
  · rintro ⟨j, hj, hd⟩
    exact ⟨j, List.mem_range.2 hj, unlikeL_mem.2 hd⟩
theorem unlikeL_sorted (p q : List Pt) (leaf : Nat) : ∀ m, (unlikeL p q leaf m).Pairwise (· < ·)
  | 0 => by simp [unlikeL]
  | m + 1 => by
    rw [unlikeL_more, List.pairwise_append]
    refine ⟨unlikeL_sorted p q leaf m, by split <;> simp, fun a ha b hb => ?_⟩
    obtain ⟨c, hc, rfl, _⟩ := unlikeL_mem.1 ha
    split at hb
    · simp at hb
    · have : b = leaf * 4 + m := by simpa using hb
      omega
theorem diffsL_sorted (C : Nat → List Pt × List Pt) : ∀ k, (diffsL C k).Pairwise (· < ·)
  | 0 => by simp [diffsL]
  | k + 1 => by
    rw [diffsL_more, List.pairwise_append]
    refine ⟨diffsL_sorted C k, unlikeL_sorted _ _ _ _, fun a ha b hb => ?_⟩
    obtain ⟨j, hj, c, hc, rfl, _⟩ := diffsL_mem.1 ha
    obtain ⟨c', hc', rfl, _⟩ := unlikeL_mem.1 hb
    omega
section
variable {S : DS} {k : Nat} {a b : Pt} {ns ms : List Pt} {cs ds : Nat → List Pt} {pl pl' : List (List Int)}
theorem diff_none (q : Pt) (ns ms : List Pt) (cs ds : Nat → List Pt) : diffsL (pairs q q ns ms cs ds) 4 = [] := by
  rw [List.eq_nil_iff_forall_not_mem]
  intro d hd
  obtain ⟨j, hj, c, hc, rfl, hs⟩ := diffsL_mem.1 hd
  unfold pairs at hs
  rw [if_pos (Pt.same_self q)] at hs
  simp only [Pt.same_self] at hs
  cases hs
theorem diff_unlike {d : Nat} (hd : d ∈ diffsL (pairs a b ns ms cs ds) 4) : d < 16 ∧ nth (cs (d / 4)) (d % 4) ≠ nth (ds (d / 4)) (d % 4) := by
  obtain ⟨j, hj, c, hc, rfl, hs⟩ := diffsL_mem.1 hd
  refine ⟨by omega, fun e => ?_⟩
  rw [show (j * 4 + c) / 4 = j by omega, show (j * 4 + c) % 4 = c by omega] at e
  unfold pairs at hs
  split at hs
  · simp only [Pt.same_self] at hs; cases hs
  · unfold bothL at hs
    split at hs
    · simp only [Pt.same_self] at hs; cases hs
    · simp only [e, Pt.same_self] at hs; cases hs
theorem diff_like (hv : Vol S k a ns cs pl) (hu : Vol S k b ms ds pl') {d : Nat} (hd16 : d < 16) (hd : d ∉ diffsL (pairs a b ns ms cs ds) 4) : nth (cs (d / 4)) (d % 4) = nth (ds (d / 4)) (d % 4) := by
  have hj : d / 4 < 4 := by omega
  have hl := hv.leaf (d / 4) hj
  have hm := hu.leaf (d / 4) hj
  by_cases e : a.same b = true
  · have e1 := Pt.same_iff.1 e
    subst e1
    have e2 := hv.root.one hu.root
    subst e2
    rw [hl.one hm]
  · by_cases e2 : (nth ns (d / 4)).same (nth ms (d / 4)) = true
    · have e3 := Pt.same_iff.1 e2
      rw [e3] at hl
      rw [hl.one hm]
    · cases hs : (nth (cs (d / 4)) (d % 4)).same (nth (ds (d / 4)) (d % 4))
      · exfalso
        refine hd (diffsL_mem.2 ⟨d / 4, hj, d % 4, by omega, by omega, ?_⟩)
        unfold pairs bothL
        rw [if_neg e, if_neg e2]
        exact hs
      · exact Pt.same_iff.1 hs
/-- What is told, and what is not. -/
theorem diff_cells (hv : Vol S k a ns cs pl) (hu : Vol S k b ms ds pl') {d : Nat} (hd16 : d < 16) (hd : d ∉ diffsL (pairs a b ns ms cs ds) 4) : pl.getD d [] = pl'.getD d [] := by
  have h1 := hv.cell d hd16
  have h2 := hu.cell d hd16
  rw [diff_like hv hu hd16 hd] at h1
  exact h1.one h2
end

end Go.Proofs.YthbldjnpnligpaaDoor
