/-
  What the document's Load tells; no program here.
-/
import Derived.Test.YtfmfjaokpnadaaaSpPure4
namespace Go.Proofs.Ytfmfjaokpnadaaa
set_option linter.unusedSimpArgs false
set_option linter.unusedVariables false

/-- The labels', and the bits from 4 up to i. -/
def rl (xs : List Int) (n i : Nat) : List Bool := (List.range n).map (fun j => decide (j < 4) || (decide (j < i) && bitX xs j))
theorem rl_len (xs : List Int) (n i : Nat) : (rl xs n i).length = n := by simp [rl]
theorem rl_at (xs : List Int) (n i j : Nat) : (rl xs n i).getD j false = (decide (j < n) && (decide (j < 4) || (decide (j < i) && bitX xs j))) := by
  by_cases h : j < n
  · simp [rl, List.getD, h]
  · simp [rl, List.getD, h]
theorem rl_4 (xs : List Int) (n : Nat) : rl xs n 4 = lab n 4 := by
  refine getD_ext (by rw [rl_len, lab_len]) fun i hi => ?_
  rw [rl_at, lab_at]
  by_cases h : i < 4 <;> simp [h]
theorem rl_next (xs : List Int) (n i : Nat) (hi : i < n) (h4 : 4 ≤ i) : (rl xs n i).set i (bitX xs i) = rl xs n (i + 1) := by
  refine getD_ext (by simp [rl_len]) fun j hj => ?_
  rw [getD_set _ _ _ _ (by rw [rl_len]; exact hi), rl_at, rl_at]
  by_cases e : i = j
  · subst e; simp [hi, show ¬ i < 4 by omega]
  · rw [if_neg e, show decide (j < i + 1) = decide (j < i) from decide_eq_decide.2 (by omega)]

theorem rl_map {xs : List Int} {n : Nat} (h : okX xs n) (h4 : 4 ≤ n) (hn : n ≤ 512) : rl xs n n = mapX xs n := by
  refine getD_ext (by rw [rl_len, mapX_len]) fun j hj => ?_
  rw [rl_len] at hj
  rw [rl_at, mapX_at _ _ _ hn hj]
  by_cases hj4 : j < 4
  · have := h.lab h4 hn j hj4
    rw [mapX_at _ _ _ hn hj] at this
    simp [hj, hj4, this]
  · simp [hj, hj4]

theorem map_bytes {xs : List Int} {n : Nat} (h : okX xs n) (hn : n ≤ 512) (hl : xs.length = 64) (hr : ∀ x ∈ xs, 0 ≤ x ∧ x ≤ 255) : bytesL (mapX xs n) = xs := by
  refine List.ext_getElem (by rw [bytesL_len, hl]) fun k h1 h2 => ?_
  have hk : k < 64 := by omega
  have hx : xs[k] = xs.getD k 0 := by simp [List.getD, h2]
  have hxr := hr (xs.getD k 0) (by simp [List.getD, h2])
  have hb : (bytesL (mapX xs n))[k]'h1 = ((Bt (mapX xs n) k : Nat) : Int) := by simp [bytesL]
  rw [hb, hx]
  have key : Bt (mapX xs n) k = (xs.getD k 0).toNat := by
    refine Nat.eq_of_testBit_eq fun i => ?_
    rw [Bt_bit]
    by_cases hi : i < 8
    · have hbx : bitX xs (8 * k + i) = (xs.getD k 0).toNat.testBit i := by
        unfold bitX
        rw [show (8 * k + i) / 8 = k by omega, show (8 * k + i) % 8 = i by omega]
      rw [← hbx]
      simp only [hi, decide_true, Bool.true_and]
      by_cases hj : 8 * k + i < n
      · rw [mapX_at _ _ _ hn hj]
      · have := h (8 * k + i) (by omega)
        unfold bad at this
        rw [mapX, ldL_at]
        simp only [hj, decide_false, Bool.false_and]
        cases hb : bitX xs (8 * k + i)
        · rfl
        · rw [hb] at this; simp at this; omega
    · have : (xs.getD k 0).toNat < 2 ^ i := Nat.lt_of_lt_of_le (show (xs.getD k 0).toNat < 2 ^ 8 by omega) (Nat.pow_le_pow_right (by decide) (by omega))
      rw [Nat.testBit_lt_two_pow this]
      simp [hi]
  rw [key]
  omega

theorem rl_ok {xs : List Int} {n : Nat} (h4 : 4 ≤ n) (hn : n ≤ 512) (hl : xs.length = 64) (hr : ∀ x ∈ xs, 0 ≤ x ∧ x ≤ 255) : bytesL (rl xs n n) = xs ↔ okX xs n := by
  constructor
  · intro h j hj
    have hb := bitX_bytes (rl xs n n) j hj
    rw [h] at hb
    rw [rl_at] at hb
    unfold bad
    by_cases hjn : n ≤ j
    · rw [show decide (j < n) = false from decide_eq_false (by omega)] at hb
      simp only [Bool.false_and] at hb
      rw [hb]
      simp; omega
    · by_cases hj4 : j < 4
      · rw [show decide (j < n) = true from decide_eq_true (by omega), decide_eq_true hj4] at hb
        simp only [Bool.true_or, Bool.true_and] at hb
        rw [hb]; simp; omega
      · simp [hjn, hj4]
  · intro h
    rw [rl_map h h4 hn, map_bytes h hn hl hr]

theorem strOfNums_inj {xs ys : List Int} (hx : ∀ x ∈ xs, 0 ≤ x ∧ x ≤ 255) (hy : ∀ y ∈ ys, 0 ≤ y ∧ y ≤ 255) (h : strOfNums xs = strOfNums ys) : xs = ys := by
  have h1 : xs.map (fun n => UInt8.ofNat n.toNat) = ys.map (fun n => UInt8.ofNat n.toNat) := by
    have := congrArg (fun s : ByteArray => s.data.toList) h
    simpa [strOfNums] using this
  clear h
  induction xs generalizing ys with
  | nil => cases ys with
    | nil => rfl
    | cons y ys => simp at h1
  | cons x xs ih => cases ys with
    | nil => simp at h1
    | cons y ys =>
      simp only [List.map_cons, List.cons.injEq] at h1
      have hx0 := hx x (by simp)
      have hy0 := hy y (by simp)
      have e := congrArg UInt8.toNat h1.1
      simp only [UInt8.toNat_ofNat'] at e
      rw [ih (fun z hz => hx z (by simp [hz])) (fun z hz => hy z (by simp [hz])) h1.2]
      have : x = y := by omega
      rw [this]

theorem str_unlike {xs ys : List Int} (hx : ∀ x ∈ xs, 0 ≤ x ∧ x ≤ 255) (hy : ∀ y ∈ ys, 0 ≤ y ∧ y ≤ 255) (h : xs ≠ ys) : ((strOfNums xs).toList == (strOfNums ys).toList) = false := by
  cases hzz : ((strOfNums xs).toList == (strOfNums ys).toList)
  · rfl
  · exfalso
    rw [beq_iff_eq, ByteArray.toList_eq, ByteArray.toList_eq] at hzz
    exact h (strOfNums_inj hx hy (ByteArray.ext (Array.toList_inj.1 hzz)))
end Go.Proofs.Ytfmfjaokpnadaaa
