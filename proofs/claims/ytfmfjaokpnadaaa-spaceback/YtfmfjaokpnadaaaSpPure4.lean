/-
  A map as it is written, loaded again; a bit turned; no program here.
-/
import Derived.Test.YtfmfjaokpnadaaaSpRead
import Derived.Test.YtfmfjaokpnadaaaSpPure3
namespace Go.Proofs.Ytfmfjaokpnadaaa
set_option linter.unusedSimpArgs false
set_option linter.unusedVariables false

theorem bitX_bytes (l : List Bool) (j : Nat) (hj : j < 512) : bitX (bytesL l) j = l.getD j false := by
  unfold bitX
  rw [bytesL_at l (j / 8) (by omega), Int.toNat_natCast, Bt_bit, show 8 * (j / 8) + j % 8 = j by omega]
  simp only [show j % 8 < 8 by omega, decide_true, Bool.true_and]

theorem okX_bytes {l : List Bool} {n : Nat} (hl : l.length = n) (hL : Lab l) : okX (bytesL l) n := fun j hj => by
  unfold bad
  rw [bitX_bytes l j hj]
  by_cases h : n ≤ j
  · have : l.getD j false = false := by simp [List.getD, show l.length ≤ j by omega]
    rw [this]
    by_cases h4 : j < 4
    · rw [hL j h4] at this; cases this
    · simp [h4]
  · by_cases h4 : j < 4
    · rw [hL j h4]; simp; omega
    · simp [h, h4]

theorem mapX_bytes {l : List Bool} {n : Nat} (hl : l.length = n) (hn : n ≤ 512) : mapX (bytesL l) n = l := by
  refine getD_ext (by rw [mapX_len, hl]) fun i hi => ?_
  rw [mapX_len] at hi
  rw [mapX_at _ _ _ hn hi, bitX_bytes l i (by omega)]

/-- The bit i turned. -/
def turnX (xs : List Int) (i : Nat) : List Int := xs.set (i / 8) (((xs.getD (i / 8) 0).toNat ^^^ 2 ^ (i % 8) : Nat) : Int)
theorem turnX_len (xs : List Int) (i : Nat) : (turnX xs i).length = xs.length := by simp [turnX]
theorem turnX_rng {xs : List Int} (hr : ∀ x ∈ xs, 0 ≤ x ∧ x ≤ 255) (i : Nat) : ∀ x ∈ turnX xs i, 0 ≤ x ∧ x ≤ 255 := by
  intro x hx
  rcases List.mem_or_eq_of_mem_set hx with h | rfl
  · exact hr x h
  · have h1 : (xs.getD (i / 8) 0).toNat < 2 ^ 8 := by
      by_cases hi : i / 8 < xs.length
      · have := hr (xs.getD (i / 8) 0) (by simp [List.getD, hi])
        omega
      · simp [List.getD, show xs.length ≤ i / 8 by omega]
    have h2 : 2 ^ (i % 8) < 2 ^ 8 := Nat.pow_lt_pow_right (by decide) (by omega)
    have := Nat.xor_lt_two_pow h1 h2
    omega
theorem turnX_bit (xs : List Int) (i j : Nat) (hi : i / 8 < xs.length) : bitX (turnX xs i) j = (bitX xs j ^^ decide (i = j)) := by
  unfold bitX turnX
  by_cases h : i / 8 = j / 8
  · have hg : (xs.set (i / 8) (((xs.getD (i / 8) 0).toNat ^^^ 2 ^ (i % 8) : Nat) : Int)).getD (j / 8) 0 = (((xs.getD (i / 8) 0).toNat ^^^ 2 ^ (i % 8) : Nat) : Int) := by
      rw [← h]; simp [List.getD, hi]
    rw [hg, Int.toNat_natCast, Nat.testBit_xor, Nat.testBit_two_pow, h]
    congr 1
    exact decide_eq_decide.2 (by omega)
  · have hg : (xs.set (i / 8) (((xs.getD (i / 8) 0).toNat ^^^ 2 ^ (i % 8) : Nat) : Int)).getD (j / 8) 0 = xs.getD (j / 8) 0 := by
      simp [List.getD, List.getElem?_set, h]
    rw [hg]
    simp [show ¬ i = j by omega]

theorem turn_ok {l : List Bool} {n : Nat} (hl : l.length = n) (hn : n ≤ 512) (hL : Lab l) (i : Nat) (hi : i < 512) : okX (turnX (bytesL l) i) n ↔ 4 ≤ i ∧ i < n := by
  have hb : ∀ j, j < 512 → bitX (turnX (bytesL l) i) j = (l.getD j false ^^ decide (i = j)) := fun j hj => by
    rw [turnX_bit _ _ _ (by rw [bytesL_len]; omega), bitX_bytes l j hj]
  have hout : ∀ j, n ≤ j → l.getD j false = false := fun j hj => by simp [List.getD, show l.length ≤ j by omega]
  constructor
  · intro h
    have h1 := h i hi
    unfold bad at h1
    rw [hb i hi] at h1
    constructor
    · rcases Nat.lt_or_ge i 4 with h4 | h4
      · rw [hL i h4] at h1; simp [h4] at h1
      · exact h4
    · rcases Nat.lt_or_ge i n with h4 | h4
      · exact h4
      · rw [hout i h4] at h1; simp [h4] at h1
  · rintro ⟨h4, hin⟩ j hj
    unfold bad
    rw [hb j hj]
    by_cases e : i = j
    · subst e
      simp [show ¬ n ≤ i by omega, show ¬ i < 4 by omega]
    · simp only [e, decide_false, Bool.xor_false]
      have := okX_bytes hl hL j hj
      unfold bad at this
      rw [bitX_bytes l j hj] at this
      exact this
end Go.Proofs.Ytfmfjaokpnadaaa
