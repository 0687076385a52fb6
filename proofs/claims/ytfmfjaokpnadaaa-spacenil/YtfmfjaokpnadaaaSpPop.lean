/-
  Bits that are 1, counted by halves; no program here.
-/
import Derived.WalkKit
namespace Go.Proofs.Ytfmfjaokpnadaaa
set_option linter.unusedSimpArgs false
set_option linter.unusedVariables false

/-- How many of the first n bits are 1. -/
def pop : Nat → Nat → Nat
  | 0, _ => 0
  | n + 1, x => x % 2 + pop n (x / 2)

theorem and_split (a b c d : Nat) (ha : a < 256) (hc : c < 256) : (a + 256 * b) &&& (c + 256 * d) = (a &&& c) + 256 * (b &&& d) := by
  have h1 := Nat.and_mod_two_pow (a := a + 256 * b) (b := c + 256 * d) (n := 8)
  have h2 := Nat.and_div_two_pow (a := a + 256 * b) (b := c + 256 * d) (n := 8)
  have e1 : (a + 256 * b) % 2 ^ 8 = a := by omega
  have e2 : (c + 256 * d) % 2 ^ 8 = c := by omega
  have e3 : (a + 256 * b) / 2 ^ 8 = b := by omega
  have e4 : (c + 256 * d) / 2 ^ 8 = d := by omega
  rw [e1, e2] at h1
  rw [e3, e4] at h2
  omega

def p1 (m x : Nat) : Nat := (x / 2 &&& m) + (x &&& m)
def p2 (m x : Nat) : Nat := (x / 4 &&& m) + (x &&& m)

theorem low1 : ∀ a : Fin 256, ∀ t : Fin 2, (a.val / 2 + 128 * t.val) &&& 85 = a.val / 2 &&& 85 := by decide +kernel
theorem low2 : ∀ a : Fin 256, ∀ t : Fin 4, (a.val / 4 + 64 * t.val) &&& 51 = a.val / 4 &&& 51 := by decide +kernel
theorem p1_lt : ∀ a : Fin 256, p1 85 a.val < 256 := by decide +kernel
def pe (a : Nat) : Nat := p2 51 (p1 85 a)
theorem pe_ok : ∀ a : Fin 256, pe a.val % 16 ≤ 4 ∧ pe a.val / 16 ≤ 4 ∧ pe a.val % 16 + pe a.val / 16 = pop 8 a.val := by decide +kernel

theorem p1_split (a b m : Nat) (ha : a < 256) : p1 (85 + 256 * m) (a + 256 * b) = p1 85 a + 256 * p1 m b := by
  unfold p1
  have e : (a + 256 * b) / 2 = (a / 2 + 128 * (b % 2)) + 256 * (b / 2) := by omega
  have h := low1 ⟨a, ha⟩ ⟨b % 2, by omega⟩
  simp only at h
  rw [e, and_split _ _ _ _ (by omega) (by omega), and_split _ _ _ _ ha (by omega), h]
  omega
theorem p2_split (a b m : Nat) (ha : a < 256) : p2 (51 + 256 * m) (a + 256 * b) = p2 51 a + 256 * p2 m b := by
  unfold p2
  have e : (a + 256 * b) / 4 = (a / 4 + 64 * (b % 4)) + 256 * (b / 4) := by omega
  have h := low2 ⟨a, ha⟩ ⟨b % 4, by omega⟩
  simp only at h
  rw [e, and_split _ _ _ _ (by omega) (by omega), and_split _ _ _ _ ha (by omega), h]
  omega

/-- Eight bytes as one number. -/
def by8 (a0 a1 a2 a3 a4 a5 a6 a7 : Nat) : Nat := a0 + 256 * (a1 + 256 * (a2 + 256 * (a3 + 256 * (a4 + 256 * (a5 + 256 * (a6 + 256 * a7))))))

theorem by8_of (x : Nat) (h : x < 18446744073709551616) : ∃ a0 a1 a2 a3 a4 a5 a6 a7, x = by8 a0 a1 a2 a3 a4 a5 a6 a7 ∧ a0 < 256 ∧ a1 < 256 ∧ a2 < 256 ∧ a3 < 256 ∧ a4 < 256 ∧ a5 < 256 ∧ a6 < 256 ∧ a7 < 256 :=
  ⟨x % 256, x / 256 % 256, x / 65536 % 256, x / 16777216 % 256, x / 4294967296 % 256, x / 1099511627776 % 256, x / 281474976710656 % 256, x / 72057594037927936, by unfold by8; omega, by omega, by omega, by omega, by omega, by omega, by omega, by omega, by omega⟩

def m0 : Nat := 6148914691236517205
def m1 : Nat := 3689348814741910323
def m2 : Nat := 1085102592571150095

theorem pop_split : ∀ (k n a b : Nat), a < 2 ^ k → pop (k + n) (a + 2 ^ k * b) = pop k a + pop n b
  | 0, n, a, b, h => by
    have : a = 0 := by simpa using h
    subst this; simp [pop]
  | k + 1, n, a, b, h => by
    rw [show k + 1 + n = (k + n) + 1 by omega]
    rw [pop, pop]
    have hp : 2 ^ (k + 1) = 2 * 2 ^ k := by rw [Nat.pow_succ]; omega
    have e1 : (a + 2 ^ (k + 1) * b) % 2 = a % 2 := by rw [hp, Nat.mul_assoc]; omega
    have e2 : (a + 2 ^ (k + 1) * b) / 2 = a / 2 + 2 ^ k * b := by rw [hp, Nat.mul_assoc]; omega
    rw [e1, e2, pop_split k n (a / 2) b (by omega)]
    omega

theorem pop_by8 (a0 a1 a2 a3 a4 a5 a6 a7 : Nat) (h0 : a0 < 256) (h1 : a1 < 256) (h2 : a2 < 256) (h3 : a3 < 256) (h4 : a4 < 256) (h5 : a5 < 256) (h6 : a6 < 256) :
    pop 64 (by8 a0 a1 a2 a3 a4 a5 a6 a7) = pop 8 a0 + (pop 8 a1 + (pop 8 a2 + (pop 8 a3 + (pop 8 a4 + (pop 8 a5 + (pop 8 a6 + pop 8 a7)))))) := by
  unfold by8
  rw [show (256 : Nat) = 2 ^ 8 from rfl, pop_split 8 56 _ _ h0, pop_split 8 48 _ _ h1, pop_split 8 40 _ _ h2, pop_split 8 32 _ _ h3, pop_split 8 24 _ _ h4, pop_split 8 16 _ _ h5, pop_split 8 8 _ _ h6]

/-- What bits.OnesCount64 reckons. -/
def swar (x : Nat) : Nat :=
  let y := p2 m1 (p1 m0 x)
  let z := (y / 16 + y) &&& m2
  let z1 := z + z / 256
  let z2 := z1 + z1 / 65536
  (z2 + z2 / 4294967296) % 128

theorem p_by8 (a0 a1 a2 a3 a4 a5 a6 a7 : Nat) (h0 : a0 < 256) (h1 : a1 < 256) (h2 : a2 < 256) (h3 : a3 < 256) (h4 : a4 < 256) (h5 : a5 < 256) (h6 : a6 < 256) (h7 : a7 < 256) :
    p2 m1 (p1 m0 (by8 a0 a1 a2 a3 a4 a5 a6 a7)) = by8 (pe a0) (pe a1) (pe a2) (pe a3) (pe a4) (pe a5) (pe a6) (pe a7) := by
  have l : ∀ a, a < 256 → p1 85 a < 256 := fun a h => p1_lt ⟨a, h⟩
  have e0 : m0 = 85 + 256 * (85 + 256 * (85 + 256 * (85 + 256 * (85 + 256 * (85 + 256 * (85 + 256 * 85)))))) := rfl
  have e1 : m1 = 51 + 256 * (51 + 256 * (51 + 256 * (51 + 256 * (51 + 256 * (51 + 256 * (51 + 256 * 51)))))) := rfl
  unfold by8
  rw [e0, p1_split _ _ _ h0, p1_split _ _ _ h1, p1_split _ _ _ h2, p1_split _ _ _ h3, p1_split _ _ _ h4, p1_split _ _ _ h5, p1_split _ _ _ h6]
  rw [e1, p2_split _ _ _ (l _ h0), p2_split _ _ _ (l _ h1), p2_split _ _ _ (l _ h2), p2_split _ _ _ (l _ h3), p2_split _ _ _ (l _ h4), p2_split _ _ _ (l _ h5), p2_split _ _ _ (l _ h6)]
  rfl

/-- A byte whose halves are small, as both. -/
theorem half (a : Nat) (h : a < 256) : ∃ l u, pe a = l + 16 * u ∧ l ≤ 4 ∧ u ≤ 4 ∧ l + u = pop 8 a := by
  obtain ⟨h1, h2, h3⟩ := pe_ok ⟨a, h⟩
  exact ⟨pe a % 16, pe a / 16, by omega, h1, h2, h3⟩

theorem and15 (a : Nat) : a &&& 15 = a % 16 := Nat.and_two_pow_sub_one_eq_mod a 4

theorem fold8 (q0 q1 q2 q3 q4 q5 q6 q7 : Nat) (h0 : q0 ≤ 8) (h1 : q1 ≤ 8) (h2 : q2 ≤ 8) (h3 : q3 ≤ 8) (h4 : q4 ≤ 8) (h5 : q5 ≤ 8) (h6 : q6 ≤ 8) (h7 : q7 ≤ 8) :
    (by8 q0 q1 q2 q3 q4 q5 q6 q7 + by8 q0 q1 q2 q3 q4 q5 q6 q7 / 256 + (by8 q0 q1 q2 q3 q4 q5 q6 q7 + by8 q0 q1 q2 q3 q4 q5 q6 q7 / 256) / 65536 + (by8 q0 q1 q2 q3 q4 q5 q6 q7 + by8 q0 q1 q2 q3 q4 q5 q6 q7 / 256 + (by8 q0 q1 q2 q3 q4 q5 q6 q7 + by8 q0 q1 q2 q3 q4 q5 q6 q7 / 256) / 65536) / 4294967296) % 128
      = q0 + (q1 + (q2 + (q3 + (q4 + (q5 + (q6 + q7)))))) := by
  have e1 : by8 q0 q1 q2 q3 q4 q5 q6 q7 + by8 q0 q1 q2 q3 q4 q5 q6 q7 / 256 = by8 (q0 + q1) (q1 + q2) (q2 + q3) (q3 + q4) (q4 + q5) (q5 + q6) (q6 + q7) q7 := by unfold by8; omega
  rw [e1]
  have e2 : by8 (q0 + q1) (q1 + q2) (q2 + q3) (q3 + q4) (q4 + q5) (q5 + q6) (q6 + q7) q7 / 65536 = by8 (q2 + q3) (q3 + q4) (q4 + q5) (q5 + q6) (q6 + q7) q7 0 0 := by unfold by8; omega
  rw [e2]
  have e3 : by8 (q0 + q1) (q1 + q2) (q2 + q3) (q3 + q4) (q4 + q5) (q5 + q6) (q6 + q7) q7 + by8 (q2 + q3) (q3 + q4) (q4 + q5) (q5 + q6) (q6 + q7) q7 0 0 = by8 (q0 + q1 + q2 + q3) (q1 + q2 + q3 + q4) (q2 + q3 + q4 + q5) (q3 + q4 + q5 + q6) (q4 + q5 + q6 + q7) (q5 + q6 + q7) (q6 + q7) q7 := by unfold by8; omega
  rw [e3]
  have e4 : by8 (q0 + q1 + q2 + q3) (q1 + q2 + q3 + q4) (q2 + q3 + q4 + q5) (q3 + q4 + q5 + q6) (q4 + q5 + q6 + q7) (q5 + q6 + q7) (q6 + q7) q7 / 4294967296 = by8 (q4 + q5 + q6 + q7) (q5 + q6 + q7) (q6 + q7) q7 0 0 0 0 := by unfold by8; omega
  rw [e4]
  unfold by8; omega

theorem swar_pop (x : Nat) (h : x < 18446744073709551616) : swar x = pop 64 x := by
  obtain ⟨a0, a1, a2, a3, a4, a5, a6, a7, rfl, h0, h1, h2, h3, h4, h5, h6, h7⟩ := by8_of x h
  rw [pop_by8 _ _ _ _ _ _ _ _ h0 h1 h2 h3 h4 h5 h6]
  unfold swar
  rw [p_by8 _ _ _ _ _ _ _ _ h0 h1 h2 h3 h4 h5 h6 h7]
  obtain ⟨l0, u0, e0, b0, c0, s0⟩ := half a0 h0
  obtain ⟨l1, u1, e1, b1, c1, s1⟩ := half a1 h1
  obtain ⟨l2, u2, e2, b2, c2, s2⟩ := half a2 h2
  obtain ⟨l3, u3, e3, b3, c3, s3⟩ := half a3 h3
  obtain ⟨l4, u4, e4, b4, c4, s4⟩ := half a4 h4
  obtain ⟨l5, u5, e5, b5, c5, s5⟩ := half a5 h5
  obtain ⟨l6, u6, e6, b6, c6, s6⟩ := half a6 h6
  obtain ⟨l7, u7, e7, b7, c7, s7⟩ := half a7 h7
  rw [← s0, ← s1, ← s2, ← s3, ← s4, ← s5, ← s6, ← s7, e0, e1, e2, e3, e4, e5, e6, e7]
  clear s0 s1 s2 s3 s4 s5 s6 s7 e0 e1 e2 e3 e4 e5 e6 e7 h h0 h1 h2 h3 h4 h5 h6 h7
  have hy : by8 (l0 + 16 * u0) (l1 + 16 * u1) (l2 + 16 * u2) (l3 + 16 * u3) (l4 + 16 * u4) (l5 + 16 * u5) (l6 + 16 * u6) (l7 + 16 * u7) / 16 + by8 (l0 + 16 * u0) (l1 + 16 * u1) (l2 + 16 * u2) (l3 + 16 * u3) (l4 + 16 * u4) (l5 + 16 * u5) (l6 + 16 * u6) (l7 + 16 * u7)
      = by8 (l0 + u0 + 16 * (u0 + l1)) (l1 + u1 + 16 * (u1 + l2)) (l2 + u2 + 16 * (u2 + l3)) (l3 + u3 + 16 * (u3 + l4)) (l4 + u4 + 16 * (u4 + l5)) (l5 + u5 + 16 * (u5 + l6)) (l6 + u6 + 16 * (u6 + l7)) (l7 + u7 + 16 * u7) := by
    unfold by8; omega
  have em : m2 = 15 + 256 * (15 + 256 * (15 + 256 * (15 + 256 * (15 + 256 * (15 + 256 * (15 + 256 * 15)))))) := rfl
  have hz : (by8 (l0 + u0 + 16 * (u0 + l1)) (l1 + u1 + 16 * (u1 + l2)) (l2 + u2 + 16 * (u2 + l3)) (l3 + u3 + 16 * (u3 + l4)) (l4 + u4 + 16 * (u4 + l5)) (l5 + u5 + 16 * (u5 + l6)) (l6 + u6 + 16 * (u6 + l7)) (l7 + u7 + 16 * u7)) &&& m2
      = by8 (l0 + u0) (l1 + u1) (l2 + u2) (l3 + u3) (l4 + u4) (l5 + u5) (l6 + u6) (l7 + u7) := by
    have r : ∀ p q, p ≤ 8 → (p + 16 * q) &&& 15 = p := fun p q hp => by rw [and15]; omega
    unfold by8
    rw [em, and_split _ _ _ _ (by omega) (by omega), and_split _ _ _ _ (by omega) (by omega), and_split _ _ _ _ (by omega) (by omega), and_split _ _ _ _ (by omega) (by omega), and_split _ _ _ _ (by omega) (by omega), and_split _ _ _ _ (by omega) (by omega), and_split _ _ _ _ (by omega) (by omega),
      r _ _ (by omega), r _ _ (by omega), r _ _ (by omega), r _ _ (by omega), r _ _ (by omega), r _ _ (by omega), r _ _ (by omega), r _ _ (by omega)]
  simp only [hy, hz]
  clear hy hz em
  exact fold8 _ _ _ _ _ _ _ _ (by omega) (by omega) (by omega) (by omega) (by omega) (by omega) (by omega) (by omega)
end Go.Proofs.Ytfmfjaokpnadaaa
