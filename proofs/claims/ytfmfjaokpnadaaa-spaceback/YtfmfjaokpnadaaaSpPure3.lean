/-
  What Load tells; no program here.
-/
import Derived.Test.YtfmfjaokpnadaaaSpPure2
namespace Go.Proofs.Ytfmfjaokpnadaaa
set_option linter.unusedSimpArgs false
set_option linter.unusedVariables false

/-- The bit j of bytes. -/
def bitX (xs : List Int) (j : Nat) : Bool := (xs.getD (j / 8) 0).toNat.testBit (j % 8)
/-- May it not be? -/
def bad (xs : List Int) (n j : Nat) : Bool := (bitX xs j && decide (n ≤ j)) || (!bitX xs j && decide (j < 4))
/-- May they be? -/
def okX (xs : List Int) (n : Nat) : Prop := ∀ j, j < 512 → bad xs n j = false
/-- The first i bits. -/
def ldL (xs : List Int) (n i : Nat) : List Bool := (List.range n).map (fun j => decide (j < i) && bitX xs j)

theorem ldL_len (xs : List Int) (n i : Nat) : (ldL xs n i).length = n := by simp [ldL]
theorem ldL_at (xs : List Int) (n i j : Nat) : (ldL xs n i).getD j false = (decide (j < n) && (decide (j < i) && bitX xs j)) := by
  by_cases h : j < n
  · simp [ldL, List.getD, h]
  · simp [ldL, List.getD, h]
theorem ldL_0 (xs : List Int) (n : Nat) : ldL xs n 0 = lab n 0 := by
  refine getD_ext (by rw [ldL_len, lab_len]) fun i hi => ?_
  rw [ldL_at, lab_at]; simp
theorem ldL_one (xs : List Int) (n i : Nat) (hi : i < n) (h : bitX xs i = true) : (ldL xs n i).set i true = ldL xs n (i + 1) := by
  refine getD_ext (by simp [ldL_len]) fun j hj => ?_
  rw [getD_set _ _ _ _ (by rw [ldL_len]; exact hi), ldL_at, ldL_at]
  by_cases e : i = j
  · subst e; simp [hi, h]
  · rw [if_neg e, show decide (j < i + 1) = decide (j < i) from decide_eq_decide.2 (by omega)]
theorem ldL_zero (xs : List Int) (n i : Nat) (h : bitX xs i = false ∨ n ≤ i) : ldL xs n i = ldL xs n (i + 1) := by
  refine getD_ext (by simp [ldL_len]) fun j hj => ?_
  rw [ldL_len] at hj
  rw [ldL_at, ldL_at]
  by_cases e : i = j
  · subst e
    rcases h with h | h
    · simp [h]
    · omega
  · rw [show decide (j < i + 1) = decide (j < i) from decide_eq_decide.2 (by omega)]

/-- The map of bytes. -/
def mapX (xs : List Int) (n : Nat) : List Bool := ldL xs n 512
theorem mapX_len (xs : List Int) (n : Nat) : (mapX xs n).length = n := ldL_len _ _ _
theorem mapX_at (xs : List Int) (n j : Nat) (hn : n ≤ 512) (hj : j < n) : (mapX xs n).getD j false = bitX xs j := by
  rw [mapX, ldL_at]
  simp [hj, show j < 512 by omega]
theorem okX.lab {xs : List Int} {n : Nat} (h : okX xs n) (h4 : 4 ≤ n) (hn : n ≤ 512) : Lab (mapX xs n) := fun i hi => by
  rw [mapX_at _ _ _ hn (by omega)]
  have := h i (by omega)
  unfold bad at this
  cases hb : bitX xs i
  · rw [hb] at this; simp [hi] at this
  · rfl
end Go.Proofs.Ytfmfjaokpnadaaa
