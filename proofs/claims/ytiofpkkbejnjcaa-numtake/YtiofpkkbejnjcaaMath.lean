/-
  Short numbers: what is put is taken as it was, and what is taken is what was put; no program here.
-/
import Derived.Test.YtiofpkkbejnjcaaSpec
namespace Go.Proofs.Ytiofpkkbejnjcaa
set_option linter.unusedSimpArgs false
set_option linter.unusedVariables false

theorem mul_split (q p : Nat) : (q % 128) * p + (q / 128) * (p * 128) = q * p := by
  have h := Nat.div_add_mod q 128
  have : q * p = (128 * (q / 128) + q % 128) * p := by rw [h]
  rw [this, Nat.add_mul, Nat.mul_comm 128 (q / 128), Nat.mul_assoc, Nat.mul_comm 128 p]
  omega

theorem lead_only : ∀ (xs : List Int) (k m n s : Nat), (∀ x ∈ xs, 0 ≤ x ∧ x ≤ 255) → leadL k m xs = (n, s, 0) →
    k < s ∧ ∃ q, n = m + q * 128 ^ k ∧ xs.take (s - k) = leb q ∧ (0 < k → 0 < q)
  | [], k, m, n, s, _, h => by simp [leadL] at h
  | x :: xs, k, m, n, s, hr, h => by
    have hx := hr x (by simp)
    by_cases h1 : k = 9 ∧ 1 < x
    · rw [leadL_over _ _ _ _ h1.1 h1.2] at h; simp at h
    · by_cases h2 : 128 ≤ x
      · rw [leadL_more _ _ _ _ (by omega) h2] at h
        obtain ⟨hs, q, hn, ht, hq⟩ := lead_only xs (k + 1) _ n s (fun y hy => hr y (by simp [hy])) h
        have hq := hq (by omega)
        refine ⟨by omega, (x % 128).toNat + 128 * q, ?_, ?_, fun _ => by omega⟩
        · rw [hn, Nat.pow_succ, Nat.add_mul, Nat.mul_comm 128 q, Nat.mul_assoc, Nat.mul_comm (128 ^ k) 128]; omega
        · rw [leb_great (by omega)]
          have e1 : ((x % 128).toNat + 128 * q) / 128 = q := by omega
          have e2 : ((((x % 128).toNat + 128 * q) % 128 + 128 : Nat) : Int) = x := by omega
          rw [e1, e2, ← ht, show s - k = (s - (k + 1)) + 1 by omega, List.take_succ_cons]
      · by_cases h3 : x = 0 ∧ 0 < k
        · rw [leadL_zero _ _ _ _ h3.1 h3.2] at h; simp at h
        · rw [leadL_last _ _ _ _ h1 (by omega) h3] at h
          simp only [Prod.mk.injEq, and_true] at h
          refine ⟨by omega, (x % 128).toNat, h.1.symm, ?_, fun hk => by omega⟩
          rw [leb_small (by omega), ← h.2, show k + 1 - k = 1 by omega]
          simp
          omega

theorem lead_back (q : Nat) : ∀ (k m : Nat) (rest : List Int), m + q * 128 ^ k < 18446744073709551616 → k ≤ 9 → (0 < k → 0 < q) →
    leadL k m (leb q ++ rest) = (m + q * 128 ^ k, k + (leb q).length, 0) := by
  induction q using leb_ind with
  | h1 q h =>
    intro k m rest hb hk hq
    rw [leb_small h]
    have h1 : ¬ (k = 9 ∧ (1 : Int) < (q : Int)) := by
      rintro ⟨rfl, h1⟩
      have : 2 * 128 ^ 9 ≤ q * 128 ^ 9 := Nat.mul_le_mul_right _ (by omega)
      omega
    simp only [List.cons_append, List.nil_append]
    rw [leadL_last _ _ _ _ h1 (by omega) (by omega)]
    have : ((q : Int) % 128).toNat = q := by omega
    rw [this]; rfl
  | h2 q h ih =>
    intro k m rest hb hk hq
    rw [leb_great (by omega)]
    have hk9 : k ≠ 9 := by
      rintro rfl
      have : 128 * 128 ^ 9 ≤ q * 128 ^ 9 := Nat.mul_le_mul_right _ (by omega)
      omega
    simp only [List.cons_append, List.length_cons]
    rw [leadL_more _ _ _ _ hk9 (by omega)]
    have e : (((q % 128 + 128 : Nat) : Int) % 128).toNat = q % 128 := by omega
    have hm := mul_split q (128 ^ k)
    rw [e, ih (k + 1) _ rest (by rw [Nat.pow_succ]; omega) (by omega) (by omega), Nat.pow_succ]
    simp only [Prod.mk.injEq, and_true]
    constructor <;> omega

theorem take_only {xs : List Int} (hr : ∀ x ∈ xs, 0 ≤ x ∧ x ≤ 255) (h : (takeL xs).2.2 = 0) : leb (takeL xs).1 ++ (takeL xs).2.1 = xs := by
  unfold takeL at h ⊢
  obtain ⟨⟨n, s, z⟩, hl⟩ : ∃ r, leadL 0 0 xs = r := ⟨_, rfl⟩
  rw [hl] at h ⊢
  simp only at h ⊢
  subst h
  obtain ⟨_, q, hn, ht, _⟩ := lead_only xs 0 0 n s hr hl
  have : n = q := by simpa using hn
  subst this
  rw [if_pos rfl, ← ht]
  simp

theorem take_back (n : Nat) (rest : List Int) (hn : n < 18446744073709551616) : takeL (leb n ++ rest) = (n, rest, 0) := by
  unfold takeL
  rw [lead_back n 0 0 rest (by simpa using hn) (by decide) (by simp)]
  simp

theorem string_only {xs : List Int} (hr : ∀ x ∈ xs, 0 ≤ x ∧ x ≤ 255) (most : Int) (h : (stringL xs most).2.2 = 0) :
    leb (stringL xs most).1.length ++ (stringL xs most).1 ++ (stringL xs most).2.1 = xs ∧ (stringL xs most).1.length ≤ most ∧ (stringL xs most).1.length ≤ xs.length := by
  have ho := take_only hr
  unfold stringL at h ⊢
  obtain ⟨⟨n, rest, z⟩, hl⟩ : ∃ r, takeL xs = r := ⟨_, rfl⟩
  rw [hl] at h ho ⊢
  simp only at h ho ⊢
  by_cases hz : z = 0
  · subst hz
    have ho := ho rfl
    rw [if_neg (by simp)] at h ⊢
    by_cases hm : most < 0 ∨ most < n
    · rw [if_pos hm] at h; simp at h
    · rw [if_neg hm] at h ⊢
      unfold cutL at h ⊢
      by_cases hn : n ≤ rest.length
      · rw [if_pos hn] at h ⊢
        simp only [List.length_take, Nat.min_eq_left hn]
        refine ⟨?_, by omega, ?_⟩
        · rw [List.append_assoc, List.take_append_drop, ho]
        · rw [← ho]; simp; omega
      · rw [if_neg hn] at h; simp at h
  · rw [if_pos hz] at h; exact absurd h hz

theorem string_back (s rest : List Int) (most : Int) (hs : (s.length : Int) ≤ most) (hl : s.length < 18446744073709551616) : stringL (leb s.length ++ (s ++ rest)) most = (s, rest, 0) := by
  unfold stringL
  rw [take_back _ _ hl]
  simp only
  rw [if_neg (by simp), if_neg (by omega)]
  unfold cutL
  rw [if_pos (by simp)]
  simp

end Go.Proofs.Ytiofpkkbejnjcaa
