/-
  Short numbers as plain lists of bytes: how they are put and taken; no program here.
-/
namespace Go.Proofs.Ytiofpkkbejnjcaa
set_option linter.unusedSimpArgs false
set_option linter.unusedVariables false

/-- A short number, by so many bytes more at most. -/
def lebF : Nat → Nat → List Int
  | 0, n => [(n : Int)]
  | f + 1, n => if n < 128 then [(n : Int)] else ((n % 128 + 128 : Nat) : Int) :: lebF f (n / 128)

/-- A short number. -/
def leb (n : Nat) : List Int := lebF n n

theorem lebF_small (f : Nat) {n : Nat} (h : n < 128) : lebF f n = [(n : Int)] := by
  cases f with
  | zero => rfl
  | succ f => rw [lebF, if_pos h]

theorem lebF_same : ∀ f g n : Nat, n ≤ f → n ≤ g → lebF f n = lebF g n
  | 0, g, n, h, _ => by rw [lebF_small 0 (by omega), lebF_small g (by omega)]
  | f + 1, 0, n, _, h => by rw [lebF_small _ (by omega), lebF_small 0 (by omega)]
  | f + 1, g + 1, n, h, k => by
    by_cases hn : n < 128
    · rw [lebF_small _ hn, lebF_small _ hn]
    · rw [lebF, lebF, if_neg hn, if_neg hn, lebF_same f g (n / 128) (by omega) (by omega)]

theorem leb_small {n : Nat} (h : n < 128) : leb n = [(n : Int)] := lebF_small n h
theorem leb_great {n : Nat} (h : 128 ≤ n) : leb n = ((n % 128 + 128 : Nat) : Int) :: leb (n / 128) := by
  unfold leb
  obtain ⟨m, rfl⟩ : ∃ m, n = m + 1 := ⟨n - 1, by omega⟩
  rw [lebF, if_neg (by omega), lebF_same m ((m + 1) / 128) ((m + 1) / 128) (by omega) (by omega)]

theorem leb_ind {p : Nat → Prop} (h1 : ∀ n, n < 128 → p n) (h2 : ∀ n, ¬ n < 128 → p (n / 128) → p n) (n : Nat) : p n := by
  induction n using Nat.strongRecOn with
  | _ n ih =>
    by_cases h : n < 128
    · exact h1 n h
    · exact h2 n h (ih (n / 128) (by omega))

theorem leb_rng (n : Nat) : ∀ x ∈ leb n, 0 ≤ x ∧ x ≤ 255 := by
  induction n using leb_ind with
  | h1 n h => rw [leb_small h]; simp; omega
  | h2 n h ih => rw [leb_great (by omega)]; intro x hx; rcases List.mem_cons.1 hx with rfl | hx <;> first | exact ih x hx | omega

theorem leb_pos (n : Nat) : 0 < (leb n).length := by
  by_cases h : n < 128
  · simp [leb_small h]
  · simp [leb_great (show 128 ≤ n by omega)]

theorem leb_len (k : Nat) : ∀ n, n < 128 ^ (k + 1) → (leb n).length ≤ k + 1 := by
  induction k with
  | zero => intro n h; rw [leb_small (by simpa using h)]; simp
  | succ k ih =>
    intro n h
    by_cases hn : n < 128
    · rw [leb_small hn]; simp
    · rw [leb_great (by omega)]
      have := ih (n / 128) (by rw [Nat.pow_succ] at h; omega)
      simp; omega

theorem leb_len10 (n : Nat) (h : n < 18446744073709551616) : (leb n).length ≤ 10 := leb_len 9 n (Nat.lt_of_lt_of_le h (by decide))

/-- The short number that the bytes begin with: the number, how many bytes it has, the error (0: none, 2: short, 3: form). -/
def leadL : Nat → Nat → List Int → Nat × Nat × Nat
  | _, _, [] => (0, 0, 2)
  | k, m, x :: xs =>
    if k = 9 ∧ 1 < x then (0, 0, 3)
    else if 128 ≤ x then leadL (k + 1) (m + (x % 128).toNat * 128 ^ k) xs
    else if x = 0 ∧ 0 < k then (0, 0, 3)
    else (m + (x % 128).toNat * 128 ^ k, k + 1, 0)

theorem leadL_end (k m : Nat) : leadL k m [] = (0, 0, 2) := rfl
theorem leadL_over (m : Nat) (x : Int) (xs : List Int) (k : Nat) (hk : k = 9) (h : 1 < x) : leadL k m (x :: xs) = (0, 0, 3) := by simp [leadL, hk, h]
theorem leadL_more (k m : Nat) (x : Int) (xs : List Int) (hk : k ≠ 9) (h : 128 ≤ x) : leadL k m (x :: xs) = leadL (k + 1) (m + (x % 128).toNat * 128 ^ k) xs := by simp [leadL, hk, h]
theorem leadL_zero (k m : Nat) (x : Int) (xs : List Int) (hx : x = 0) (hk : 0 < k) : leadL k m (x :: xs) = (0, 0, 3) := by subst hx; simp [leadL, hk]
theorem leadL_last (k m : Nat) (x : Int) (xs : List Int) (h9 : ¬ (k = 9 ∧ 1 < x)) (h : x < 128) (h0 : ¬ (x = 0 ∧ 0 < k)) : leadL k m (x :: xs) = (m + (x % 128).toNat * 128 ^ k, k + 1, 0) := by
  simp only [leadL, if_neg h9, if_neg (show ¬ 128 ≤ x by omega), if_neg h0]

theorem pow_step {m k : Nat} {y : Nat} (hm : m < 128 ^ k) (hy : y < 128) : m + y * 128 ^ k < 128 ^ (k + 1) := by
  rw [Nat.pow_succ]
  have : y * 128 ^ k ≤ 127 * 128 ^ k := Nat.mul_le_mul_right _ (by omega)
  omega

theorem leadL_facts : ∀ (xs : List Int) (k m : Nat), m < 128 ^ k → k ≤ 9 → (∀ x ∈ xs, 0 ≤ x ∧ x ≤ 255) →
    ((leadL k m xs).2.2 = 0 → (leadL k m xs).2.1 ≤ k + xs.length ∧ (leadL k m xs).1 < 18446744073709551616 ∧ k < (leadL k m xs).2.1) ∧ ((leadL k m xs).2.2 ≠ 0 → (leadL k m xs).1 = 0)
  | [], k, m, _, _, _ => by simp [leadL]
  | x :: xs, k, m, hm, hk, hr => by
    have hx := hr x (by simp)
    by_cases h1 : k = 9 ∧ 1 < x
    · rw [leadL_over _ _ _ _ h1.1 h1.2]; simp
    · by_cases h2 : 128 ≤ x
      · rw [leadL_more _ _ _ _ (by omega) h2]
        have ih := leadL_facts xs (k + 1) (m + (x % 128).toNat * 128 ^ k) (pow_step hm (by omega)) (by omega) (fun y hy => hr y (by simp [hy]))
        refine ⟨fun h => ?_, ih.2⟩
        have := ih.1 h
        simp only [List.length_cons]
        omega
      · by_cases h3 : x = 0 ∧ 0 < k
        · rw [leadL_zero _ _ _ _ h3.1 h3.2]; simp
        · rw [leadL_last _ _ _ _ h1 (by omega) h3]
          refine ⟨fun _ => ⟨by simp, ?_, by simp⟩, by simp⟩
          show m + (x % 128).toNat * 128 ^ k < 18446744073709551616
          have h9 : 128 ^ k ≤ 128 ^ 9 := Nat.pow_le_pow_right (by decide) hk
          by_cases hk9 : k = 9
          · subst hk9
            have : (x % 128).toNat ≤ 1 := by omega
            have := Nat.mul_le_mul_right (128 ^ 9) this
            omega
          · have h8 : 128 ^ (k + 1) ≤ 128 ^ 9 := Nat.pow_le_pow_right (by decide) (by omega)
            have := pow_step hm (show (x % 128).toNat < 128 by omega)
            omega

theorem lead_facts {xs : List Int} (hr : ∀ x ∈ xs, 0 ≤ x ∧ x ≤ 255) {n s z : Nat} (h : leadL 0 0 xs = (n, s, z)) :
    (z = 0 → s ≤ xs.length ∧ n < 18446744073709551616 ∧ 0 < s) ∧ (z ≠ 0 → n = 0) := by
  have := leadL_facts xs 0 0 (by decide) (by decide) hr
  rw [h] at this
  simpa using this

/-- What Take hands back. -/
def takeL (xs : List Int) : Nat × List Int × Nat := ((leadL 0 0 xs).1, if (leadL 0 0 xs).2.2 = 0 then xs.drop (leadL 0 0 xs).2.1 else [], (leadL 0 0 xs).2.2)

def cutL (xs : List Int) (n : Nat) : List Int × List Int × Nat := if n ≤ xs.length then (xs.take n, xs.drop n, 0) else ([], [], 2)

def bytesL (xs : List Int) (n : Int) : List Int × List Int × Nat := if n < 0 then ([], [], 1) else cutL xs n.toNat

/-- What TakeString hands back. -/
def stringL (xs : List Int) (most : Int) : List Int × List Int × Nat :=
  if (takeL xs).2.2 ≠ 0 then ([], [], (takeL xs).2.2)
  else if most < 0 ∨ most < (takeL xs).1 then ([], [], 4)
  else cutL (takeL xs).2.1 (takeL xs).1

end Go.Proofs.Ytiofpkkbejnjcaa
