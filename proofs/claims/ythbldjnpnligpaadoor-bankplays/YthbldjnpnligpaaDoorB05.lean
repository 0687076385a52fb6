/-
 Bits that are 1, counted by halves; no program here.
-/
import Derived.Test.YthbldjnpnligpaaDoorB03
import Derived.Test.YthbldjnpnligpaaDoorRows
import Derived.WalkKit
import Derived.Laws.BitsAllLaws
import Derived.Laws.ShiftsVarLaws
import Derived.Deep.QuietTactic
import Derived.BigQuiet
import Derived.Laws.Bits128
namespace Go.Proofs.YthbldjnpnligpaaDoor
set_option linter.unusedSimpArgs false
set_option linter.unusedVariables false
set_option maxRecDepth 100000
def pop : Nat → Nat → Nat
 | 0, _ => 0
 | n + 1, x => x % 2 + pop n (x / 2)
theorem and_split (a b c d : Nat) (ha : a < 256) (hc : c < 256) : (a + 256 * b) &&& (c + 256 * d) = (a &&& c) + 256 * (b &&& d) := by
 have h1 := Nat.and_mod_two_pow (a := a + 256 * b) (b := c + 256 * d) (n := 8)
 have h2 := Nat.and_div_two_pow (a := a + 256 * b) (b := c + 256 * d) (n := 8)
 have e1 : (a + 256 * b) % 2 ^ 8 = a := by omega
 have e2 : (c + 256 * d) % 2 ^ 8 = c := by omega
 have e3 : (a + 256 * b) / 2 ^ 8 = b := by omega
 have e4 : (c + 256 * d) / 2 ^ 8 = d := by omega
 rw [e1, e2] at h1
 rw [e3, e4] at h2
 omega
def p1 (m x : Nat) : Nat := (x / 2 &&& m) + (x &&& m)
def p2 (m x : Nat) : Nat := (x / 4 &&& m) + (x &&& m)
theorem low1 : ∀ a : Fin 256, ∀ t : Fin 2, (a.val / 2 + 128 * t.val) &&& 85 = a.val / 2 &&& 85 := by decide +kernel
theorem low2 : ∀ a : Fin 256, ∀ t : Fin 4, (a.val / 4 + 64 * t.val) &&& 51 = a.val / 4 &&& 51 := by decide +kernel
theorem p1_lt : ∀ a : Fin 256, p1 85 a.val < 256 := by decide +kernel
def pe (a : Nat) : Nat := p2 51 (p1 85 a)
theorem pe_ok : ∀ a : Fin 256, pe a.val % 16 ≤ 4 ∧ pe a.val / 16 ≤ 4 ∧ pe a.val % 16 + pe a.val / 16 = pop 8 a.val := by decide +kernel
theorem p1_split (a b m : Nat) (ha : a < 256) : p1 (85 + 256 * m) (a + 256 * b) = p1 85 a + 256 * p1 m b := by
 unfold p1
 have e : (a + 256 * b) / 2 = (a / 2 + 128 * (b % 2)) + 256 * (b / 2) := by omega
 have h := low1 ⟨a, ha⟩ ⟨b % 2, by omega⟩
 simp only at h
 rw [e, and_split _ _ _ _ (by omega) (by omega), and_split _ _ _ _ ha (by omega), h]
 omega
theorem p2_split (a b m : Nat) (ha : a < 256) : p2 (51 + 256 * m) (a + 256 * b) = p2 51 a + 256 * p2 m b := by
 unfold p2
 have e : (a + 256 * b) / 4 = (a / 4 + 64 * (b % 4)) + 256 * (b / 4) := by omega
 have h := low2 ⟨a, ha⟩ ⟨b % 4, by omega⟩
 simp only at h
 rw [e, and_split _ _ _ _ (by omega) (by omega), and_split _ _ _ _ ha (by omega), h]
 omega
def by8 (a0 a1 a2 a3 a4 a5 a6 a7 : Nat) : Nat := a0 + 256 * (a1 + 256 * (a2 + 256 * (a3 + 256 * (a4 + 256 * (a5 + 256 * (a6 + 256 * a7))))))
theorem by8_of (x : Nat) (h : x < 18446744073709551616) : ∃ a0 a1 a2 a3 a4 a5 a6 a7, x = by8 a0 a1 a2 a3 a4 a5 a6 a7 ∧ a0 < 256 ∧ a1 < 256 ∧ a2 < 256 ∧ a3 < 256 ∧ a4 < 256 ∧ a5 < 256 ∧ a6 < 256 ∧ a7 < 256 :=
 ⟨x % 256, x / 256 % 256, x / 65536 % 256, x / 16777216 % 256, x / 4294967296 % 256, x / 1099511627776 % 256, x / 281474976710656 % 256, x / 72057594037927936, by unfold by8; omega, by omega, by omega, by omega, by omega, by omega, by omega, by omega, by omega⟩
def m0 : Nat := 6148914691236517205
def m1 : Nat := 3689348814741910323
def m2 : Nat := 1085102592571150095
theorem pop_split : ∀ (k n a b : Nat), a < 2 ^ k → pop (k + n) (a + 2 ^ k * b) = pop k a + pop n b
 | 0, n, a, b, h => by
   have : a = 0 := by simpa using h
   subst this; simp [pop]
 | k + 1, n, a, b, h => by
   rw [show k + 1 + n = (k + n) + 1 by omega]
   rw [pop, pop]
   have hp : 2 ^ (k + 1) = 2 * 2 ^ k := by rw [Nat.pow_succ]; omega
   have e1 : (a + 2 ^ (k + 1) * b) % 2 = a % 2 := by rw [hp, Nat.mul_assoc]; omega
   have e2 : (a + 2 ^ (k + 1) * b) / 2 = a / 2 + 2 ^ k * b := by rw [hp, Nat.mul_assoc]; omega
   rw [e1, e2, pop_split k n (a / 2) b (by omega)]
   omega
theorem pop_by8 (a0 a1 a2 a3 a4 a5 a6 a7 : Nat) (h0 : a0 < 256) (h1 : a1 < 256) (h2 : a2 < 256) (h3 : a3 < 256) (h4 : a4 < 256) (h5 : a5 < 256) (h6 : a6 < 256) :
 pop 64 (by8 a0 a1 a2 a3 a4 a5 a6 a7) = pop 8 a0 + (pop 8 a1 + (pop 8 a2 + (pop 8 a3 + (pop 8 a4 + (pop 8 a5 + (pop 8 a6 + pop 8 a7)))))) := by
 unfold by8
 rw [show (256 : Nat) = 2 ^ 8 from rfl, pop_split 8 56 _ _ h0, pop_split 8 48 _ _ h1, pop_split 8 40 _ _ h2, pop_split 8 32 _ _ h3, pop_split 8 24 _ _ h4, pop_split 8 16 _ _ h5, pop_split 8 8 _ _ h6]
def swar (x : Nat) : Nat :=
 let y := p2 m1 (p1 m0 x)
 let z := (y / 16 + y) &&& m2
 let z1 := z + z / 256
 let z2 := z1 + z1 / 65536
 (z2 + z2 / 4294967296) % 128
theorem p_by8 (a0 a1 a2 a3 a4 a5 a6 a7 : Nat) (h0 : a0 < 256) (h1 : a1 < 256) (h2 : a2 < 256) (h3 : a3 < 256) (h4 : a4 < 256) (h5 : a5 < 256) (h6 : a6 < 256) (h7 : a7 < 256) :
 p2 m1 (p1 m0 (by8 a0 a1 a2 a3 a4 a5 a6 a7)) = by8 (pe a0) (pe a1) (pe a2) (pe a3) (pe a4) (pe a5) (pe a6) (pe a7) := by
 have l : ∀ a, a < 256 → p1 85 a < 256 := fun a h => p1_lt ⟨a, h⟩
 have e0 : m0 = 85 + 256 * (85 + 256 * (85 + 256 * (85 + 256 * (85 + 256 * (85 + 256 * (85 + 256 * 85)))))) := rfl
 have e1 : m1 = 51 + 256 * (51 + 256 * (51 + 256 * (51 + 256 * (51 + 256 * (51 + 256 * (51 + 256 * 51)))))) := rfl
 unfold by8
 rw [e0, p1_split _ _ _ h0, p1_split _ _ _ h1, p1_split _ _ _ h2, p1_split _ _ _ h3, p1_split _ _ _ h4, p1_split _ _ _ h5, p1_split _ _ _ h6]
 rw [e1, p2_split _ _ _ (l _ h0), p2_split _ _ _ (l _ h1), p2_split _ _ _ (l _ h2), p2_split _ _ _ (l _ h3), p2_split _ _ _ (l _ h4), p2_split _ _ _ (l _ h5), p2_split _ _ _ (l _ h6)]
 rfl
theorem half (a : Nat) (h : a < 256) : ∃ l u, pe a = l + 16 * u ∧ l ≤ 4 ∧ u ≤ 4 ∧ l + u = pop 8 a := by
 obtain ⟨h1, h2, h3⟩ := pe_ok ⟨a, h⟩
 exact ⟨pe a % 16, pe a / 16, by omega, h1, h2, h3⟩
theorem and15 (a : Nat) : a &&& 15 = a % 16 := Nat.and_two_pow_sub_one_eq_mod a 4
theorem fold8 (q0 q1 q2 q3 q4 q5 q6 q7 : Nat) (h0 : q0 ≤ 8) (h1 : q1 ≤ 8) (h2 : q2 ≤ 8) (h3 : q3 ≤ 8) (h4 : q4 ≤ 8) (h5 : q5 ≤ 8) (h6 : q6 ≤ 8) (h7 : q7 ≤ 8) :
 (by8 q0 q1 q2 q3 q4 q5 q6 q7 + by8 q0 q1 q2 q3 q4 q5 q6 q7 / 256 + (by8 q0 q1 q2 q3 q4 q5 q6 q7 + by8 q0 q1 q2 q3 q4 q5 q6 q7 / 256) / 65536 + (by8 q0 q1 q2 q3 q4 q5 q6 q7 + by8 q0 q1 q2 q3 q4 q5 q6 q7 / 256 + (by8 q0 q1 q2 q3 q4 q5 q6 q7 + by8 q0 q1 q2 q3 q4 q5 q6 q7 / 256) / 65536) / 4294967296) % 128
  = q0 + (q1 + (q2 + (q3 + (q4 + (q5 + (q6 + q7)))))) := by
 have e1 : by8 q0 q1 q2 q3 q4 q5 q6 q7 + by8 q0 q1 q2 q3 q4 q5 q6 q7 / 256 = by8 (q0 + q1) (q1 + q2) (q2 + q3) (q3 + q4) (q4 + q5) (q5 + q6) (q6 + q7) q7 := by unfold by8; omega
 rw [e1]
 have e2 : by8 (q0 + q1) (q1 + q2) (q2 + q3) (q3 + q4) (q4 + q5) (q5 + q6) (q6 + q7) q7 / 65536 = by8 (q2 + q3) (q3 + q4) (q4 + q5) (q5 + q6) (q6 + q7) q7 0 0 := by unfold by8; omega
 rw [e2]
 have e3 : by8 (q0 + q1) (q1 + q2) (q2 + q3) (q3 + q4) (q4 + q5) (q5 + q6) (q6 + q7) q7 + by8 (q2 + q3) (q3 + q4) (q4 + q5) (q5 + q6) (q6 + q7) q7 0 0 = by8 (q0 + q1 + q2 + q3) (q1 + q2 + q3 + q4) (q2 + q3 + q4 + q5) (q3 + q4 + q5 + q6) (q4 + q5 + q6 + q7) (q5 + q6 + q7) (q6 + q7) q7 := by unfold by8; omega
 rw [e3]
 have e4 : by8 (q0 + q1 + q2 + q3) (q1 + q2 + q3 + q4) (q2 + q3 + q4 + q5) (q3 + q4 + q5 + q6) (q4 + q5 + q6 + q7) (q5 + q6 + q7) (q6 + q7) q7 / 4294967296 = by8 (q4 + q5 + q6 + q7) (q5 + q6 + q7) (q6 + q7) q7 0 0 0 0 := by unfold by8; omega
 rw [e4]
 unfold by8; omega
theorem swar_pop (x : Nat) (h : x < 18446744073709551616) : swar x = pop 64 x := by
 obtain ⟨a0, a1, a2, a3, a4, a5, a6, a7, rfl, h0, h1, h2, h3, h4, h5, h6, h7⟩ := by8_of x h
 rw [pop_by8 _ _ _ _ _ _ _ _ h0 h1 h2 h3 h4 h5 h6]
 unfold swar
 rw [p_by8 _ _ _ _ _ _ _ _ h0 h1 h2 h3 h4 h5 h6 h7]
 obtain ⟨l0, u0, e0, b0, c0, s0⟩ := half a0 h0
 obtain ⟨l1, u1, e1, b1, c1, s1⟩ := half a1 h1
 obtain ⟨l2, u2, e2, b2, c2, s2⟩ := half a2 h2
 obtain ⟨l3, u3, e3, b3, c3, s3⟩ := half a3 h3
 obtain ⟨l4, u4, e4, b4, c4, s4⟩ := half a4 h4
 obtain ⟨l5, u5, e5, b5, c5, s5⟩ := half a5 h5
 obtain ⟨l6, u6, e6, b6, c6, s6⟩ := half a6 h6
 obtain ⟨l7, u7, e7, b7, c7, s7⟩ := half a7 h7
 rw [← s0, ← s1, ← s2, ← s3, ← s4, ← s5, ← s6, ← s7, e0, e1, e2, e3, e4, e5, e6, e7]
 clear s0 s1 s2 s3 s4 s5 s6 s7 e0 e1 e2 e3 e4 e5 e6 e7 h h0 h1 h2 h3 h4 h5 h6 h7
 have hy : by8 (l0 + 16 * u0) (l1 + 16 * u1) (l2 + 16 * u2) (l3 + 16 * u3) (l4 + 16 * u4) (l5 + 16 * u5) (l6 + 16 * u6) (l7 + 16 * u7) / 16 + by8 (l0 + 16 * u0) (l1 + 16 * u1) (l2 + 16 * u2) (l3 + 16 * u3) (l4 + 16 * u4) (l5 + 16 * u5) (l6 + 16 * u6) (l7 + 16 * u7)
  = by8 (l0 + u0 + 16 * (u0 + l1)) (l1 + u1 + 16 * (u1 + l2)) (l2 + u2 + 16 * (u2 + l3)) (l3 + u3 + 16 * (u3 + l4)) (l4 + u4 + 16 * (u4 + l5)) (l5 + u5 + 16 * (u5 + l6)) (l6 + u6 + 16 * (u6 + l7)) (l7 + u7 + 16 * u7) := by
  unfold by8; omega
 have em : m2 = 15 + 256 * (15 + 256 * (15 + 256 * (15 + 256 * (15 + 256 * (15 + 256 * (15 + 256 * 15)))))) := rfl
 have hz : (by8 (l0 + u0 + 16 * (u0 + l1)) (l1 + u1 + 16 * (u1 + l2)) (l2 + u2 + 16 * (u2 + l3)) (l3 + u3 + 16 * (u3 + l4)) (l4 + u4 + 16 * (u4 + l5)) (l5 + u5 + 16 * (u5 + l6)) (l6 + u6 + 16 * (u6 + l7)) (l7 + u7 + 16 * u7)) &&& m2
  = by8 (l0 + u0) (l1 + u1) (l2 + u2) (l3 + u3) (l4 + u4) (l5 + u5) (l6 + u6) (l7 + u7) := by
  have r : ∀ p q, p ≤ 8 → (p + 16 * q) &&& 15 = p := fun p q hp => by rw [and15]; omega
  unfold by8
  rw [em, and_split _ _ _ _ (by omega) (by omega), and_split _ _ _ _ (by omega) (by omega), and_split _ _ _ _ (by omega) (by omega), and_split _ _ _ _ (by omega) (by omega), and_split _ _ _ _ (by omega) (by omega), and_split _ _ _ _ (by omega) (by omega), and_split _ _ _ _ (by omega) (by omega),
   r _ _ (by omega), r _ _ (by omega), r _ _ (by omega), r _ _ (by omega), r _ _ (by omega), r _ _ (by omega), r _ _ (by omega), r _ _ (by omega)]
 simp only [hy, hz]
 clear hy hz em
 exact fold8 _ _ _ _ _ _ _ _ (by omega) (by omega) (by omega) (by omega) (by omega) (by omega) (by omega) (by omega)
end Go.Proofs.YthbldjnpnligpaaDoor

/-
 Truths as bits of words and of bytes; no program here.
-/

namespace Go.Proofs.YthbldjnpnligpaaDoor
set_option linter.unusedSimpArgs false
set_option linter.unusedVariables false
set_option maxRecDepth 100000
def pack : List Bool → Nat
 | [] => 0
 | b :: l => b.toNat + 2 * pack l
theorem pack_bit : ∀ (l : List Bool) (j : Nat), (pack l).testBit j = l.getD j false
 | [], j => by simp [pack]
 | b :: l, 0 => by
   rw [Nat.testBit_zero]
   cases b <;> simp [pack]
 | b :: l, j + 1 => by
   rw [Nat.testBit_succ, show pack (b :: l) / 2 = pack l by rw [pack]; cases b <;> simp <;> omega, pack_bit l j]
   simp
def W (l : List Bool) (k : Nat) : Nat := pack l / 2 ^ (64 * k) % 2 ^ 64
def Bt (l : List Bool) (k : Nat) : Nat := pack l / 2 ^ (8 * k) % 2 ^ 8
theorem W_lt (l : List Bool) (k : Nat) : W l k < 18446744073709551616 := Nat.mod_lt _ (by decide)
theorem Bt_lt (l : List Bool) (k : Nat) : Bt l k < 256 := Nat.mod_lt _ (by decide)
theorem W_bit (l : List Bool) (k j : Nat) : (W l k).testBit j = (decide (j < 64) && l.getD (64 * k + j) false) := by
 unfold W
 rw [Nat.testBit_mod_two_pow, Nat.testBit_div_two_pow, pack_bit, Nat.add_comm j]
theorem Bt_bit (l : List Bool) (k j : Nat) : (Bt l k).testBit j = (decide (j < 8) && l.getD (8 * k + j) false) := by
 unfold Bt
 rw [Nat.testBit_mod_two_pow, Nat.testBit_div_two_pow, pack_bit, Nat.add_comm j]
theorem getD_set (l : List Bool) (i j : Nat) (b : Bool) (hi : i < l.length) : (l.set i b).getD j false = if i = j then b else l.getD j false := by
 simp only [List.getD_eq_getElem?_getD, List.getElem?_set]
 split
 · simp [hi]
 · rfl
theorem W_use (l : List Bool) (i k : Nat) (hi : i < l.length) : W (l.set i true) k = if k = i / 64 then W l k ||| 2 ^ (i % 64) else W l k := by
 refine Nat.eq_of_testBit_eq fun j => ?_
 rw [W_bit, getD_set l i _ true hi]
 by_cases hk : k = i / 64
 · rw [if_pos hk, Nat.testBit_or, W_bit, Nat.testBit_two_pow]
   by_cases hj : j < 64
   · by_cases he : i = 64 * k + j
     · rw [if_pos he]; simp [hj, show i % 64 = j by omega]
     · rw [if_neg he]; simp [hj, show ¬ i % 64 = j by omega]
   · simp [hj, show ¬ i % 64 = j by omega]
 · rw [if_neg hk, W_bit]
   by_cases hj : j < 64
   · rw [if_neg (by omega)]
   · simp [hj]
theorem W_free (l : List Bool) (i k : Nat) (hi : i < l.length) : W (l.set i false) k = if k = i / 64 then W l k &&& (2 ^ 64 - 1 - 2 ^ (i % 64)) else W l k := by
 refine Nat.eq_of_testBit_eq fun j => ?_
 rw [W_bit, getD_set l i _ false hi]
 by_cases hk : k = i / 64
 · have hm : (2 ^ 64 - 1 - 2 ^ (i % 64)) = 2 ^ 64 - (2 ^ (i % 64) + 1) := by omega
   have hlt : 2 ^ (i % 64) < 2 ^ 64 := Nat.pow_lt_pow_right (by decide) (by omega)
   rw [if_pos hk, Nat.testBit_and, W_bit, hm, Nat.testBit_two_pow_sub_succ hlt, Nat.testBit_two_pow]
   by_cases hj : j < 64
   · by_cases he : i = 64 * k + j
     · rw [if_pos he]; simp [hj, show i % 64 = j by omega]
     · rw [if_neg he]; simp [hj, show ¬ i % 64 = j by omega]
   · simp [hj]
 · rw [if_neg hk, W_bit]
   by_cases hj : j < 64
   · rw [if_neg (by omega)]
   · simp [hj]
theorem and_pow (x j : Nat) : x &&& 2 ^ j = (x.testBit j).toNat * 2 ^ j := by
 refine Nat.eq_of_testBit_eq fun i => ?_
 rw [Nat.testBit_and, Nat.testBit_two_pow]
 by_cases h : j = i
 · subst h
   cases hx : x.testBit j <;> simp
 · cases hx : x.testBit j
   · simp [h]
   · simp [h, Nat.testBit_two_pow]
theorem W_used (l : List Bool) (i : Nat) : (W l (i / 64) &&& 2 ^ (i % 64)) = if l.getD i false then 2 ^ (i % 64) else 0 := by
 rw [and_pow, W_bit, show 64 * (i / 64) + i % 64 = i by omega]
 simp only [show i % 64 < 64 by omega, decide_true, Bool.true_and]
 cases l.getD i false <;> simp
theorem Bt_W (l : List Bool) (k : Nat) : W l (k * 8 / 64) / 2 ^ (k * 8 % 64) % 256 = Bt l k := by
 refine Nat.eq_of_testBit_eq fun j => ?_
 rw [show (256 : Nat) = 2 ^ 8 from rfl, Nat.testBit_mod_two_pow, Nat.testBit_div_two_pow, W_bit, Bt_bit]
 by_cases hj : j < 8
 · rw [show 64 * (k * 8 / 64) + (j + k * 8 % 64) = 8 * k + j by omega]
   simp [hj, show j + k * 8 % 64 < 64 by omega]
 · simp [hj]
theorem pop_pack : ∀ (n : Nat) (l : List Bool), pop n (pack l) = (l.take n).count true
 | 0, l => by simp [pop]
 | n + 1, [] => by
   have := pop_pack n []
   simp [pop, pack] at this ⊢; exact this
 | n + 1, b :: l => by
   have h := pop_pack n l
   rw [pop, show pack (b :: l) / 2 = pack l by rw [pack]; cases b <;> simp <;> omega, h, show pack (b :: l) % 2 = b.toNat by rw [pack]; cases b <;> simp <;> omega]
   cases b <;> simp <;> omega
theorem pop_mod (n x : Nat) : pop n (x % 2 ^ n) = pop n x := by
 have h := pop_split n 0 (x % 2 ^ n) (x / 2 ^ n) (Nat.mod_lt _ (Nat.two_pow_pos n))
 rw [Nat.mod_add_div] at h
 simp [pop] at h
 exact h.symm
theorem pop_next (l : List Bool) (k : Nat) : pop (64 * (k + 1)) (pack l) = pop (64 * k) (pack l) + pop 64 (W l k) := by
 have h := pop_split (64 * k) 64 (pack l % 2 ^ (64 * k)) (pack l / 2 ^ (64 * k)) (Nat.mod_lt _ (Nat.two_pow_pos _))
 rw [Nat.mod_add_div, pop_mod] at h
 rw [show 64 * (k + 1) = 64 * k + 64 by omega, h]
 unfold W
 rw [pop_mod]
theorem pop_all (l : List Bool) (h : l.length ≤ 512) : pop (64 * 8) (pack l) = l.count true := by
 rw [pop_pack, List.take_of_length_le (by omega)]
theorem pop_len (l : List Bool) (n : Nat) : pop n (pack l) ≤ l.length := by
 rw [pop_pack]
 have h1 := List.count_le_length (a := true) (l := l.take n)
 have h2 : (l.take n).length ≤ l.length := by simp; omega
 omega
def freeN (l : List Bool) : Nat := l.count false
theorem free_eq (l : List Bool) (h : l.length ≤ 512) : (l.length : Int) - (pop (64 * 8) (pack l) : Nat) = (freeN l : Nat) := by
 rw [pop_all l h]
 unfold freeN
 have : l.count true + l.count false = l.length := by
  clear h
  induction l with
  | nil => rfl
  | cons b l ih => cases b <;> simp <;> omega
 omega
end Go.Proofs.YthbldjnpnligpaaDoor

/-
 Package space: the small functions.
-/

namespace Go.Proofs.YthbldjnpnligpaaDoor
set_option linter.unusedSimpArgs false
set_option linter.unusedVariables false
set_option maxRecDepth 100000
open Go.RowKit
theorem wrap_nat (n : Nat) (h : n < 18446744073709551616) : IntKind.u64.wrap (n : Int) = (n : Int) := by
 rw [show IntKind.u64.wrap (n : Int) = (n : Int) % 18446744073709551616 by simp [IntKind.wrap, IntKind.bits, IntKind.signed]]; omega
theorem ones_run (x : Nat) (hx : x < 18446744073709551616) (w : World) : Calls Tryd.prog 77 #[.int .u64 (x : Int)] w fun e w' => e = .returned (.int .i64 ((pop 64 x : Nat) : Int)) ∧ w' = w := by
 obtain ⟨y1, e1, b1, v1⟩ : ∃ y1 : Nat, IntKind.u64.wrap (bits .and .u64 ((x : Int) / 2) 6148914691236517205 + bits .and .u64 (x : Int) 6148914691236517205) = (y1 : Int) ∧ y1 < 12297829382473034411 ∧ Hid (p1 m0 x = y1) := by
  have a1 := Nat.and_le_right (n := x / 2) (m := m0)
  have a2 := Nat.and_le_right (n := x) (m := m0)
  refine ⟨p1 m0 x, ?_, by unfold p1 m0 at *; omega, rfl⟩
  have f1 := u64_and_nat (x / 2) m0 (by omega) (by decide)
  have f2 := u64_and_nat x m0 hx (by decide)
  rw [Int.natCast_ediv] at f1
  unfold m0 at f1 f2 a1 a2
  rw [show ((2 : Nat) : Int) = 2 from rfl] at f1
  rw [show ((6148914691236517205 : Nat) : Int) = 6148914691236517205 from rfl] at f1 f2
  rw [f1, f2, ← Int.natCast_add, wrap_nat _ (by omega)]
  rfl
 obtain ⟨y2, e2, b2, v2⟩ : ∃ y2 : Nat, IntKind.u64.wrap (bits .and .u64 ((y1 : Int) / 4) 3689348814741910323 + bits .and .u64 (y1 : Int) 3689348814741910323) = (y2 : Int) ∧ y2 < 7378697629483820647 ∧ Hid (p2 m1 y1 = y2) := by
  have a1 := Nat.and_le_right (n := y1 / 4) (m := m1)
  have a2 := Nat.and_le_right (n := y1) (m := m1)
  refine ⟨p2 m1 y1, ?_, by unfold p2 m1 at *; omega, rfl⟩
  have f1 := u64_and_nat (y1 / 4) m1 (by omega) (by decide)
  have f2 := u64_and_nat y1 m1 (by omega) (by decide)
  rw [Int.natCast_ediv] at f1
  unfold m1 at f1 f2 a1 a2
  rw [show ((4 : Nat) : Int) = 4 from rfl] at f1
  rw [show ((3689348814741910323 : Nat) : Int) = 3689348814741910323 from rfl] at f1 f2
  rw [f1, f2, ← Int.natCast_add, wrap_nat _ (by omega)]
  rfl
 obtain ⟨y3, e3, b3, v3⟩ : ∃ y3 : Nat, bits .and .u64 ((y2 : Int) / 16 + (y2 : Int)) 1085102592571150095 = (y3 : Int) ∧ y3 < 1085102592571150096 ∧ Hid ((y2 / 16 + y2) &&& m2 = y3) := by
  have a1 := Nat.and_le_right (n := y2 / 16 + y2) (m := m2)
  refine ⟨(y2 / 16 + y2) &&& m2, ?_, by unfold m2 at *; omega, rfl⟩
  have f1 := u64_and_nat (y2 / 16 + y2) m2 (by omega) (by decide)
  exact f1
 obtain ⟨y4, e4, b4, v4⟩ : ∃ y4 : Nat, IntKind.u64.wrap ((y3 : Int) + (y3 : Int) / 256) = (y4 : Int) ∧ y4 < 1085102592571150096 * 2 ∧ Hid (y3 + y3 / 256 = y4) := by
  refine ⟨y3 + y3 / 256, ?_, by omega, rfl⟩
  exact wrap_nat (y3 + y3 / 256) (by omega)
 obtain ⟨y5, e5, b5, v5⟩ : ∃ y5 : Nat, IntKind.u64.wrap ((y4 : Int) + (y4 : Int) / 65536) = (y5 : Int) ∧ y5 < 1085102592571150096 * 3 ∧ Hid (y4 + y4 / 65536 = y5) := by
  refine ⟨y4 + y4 / 65536, ?_, by omega, rfl⟩
  exact wrap_nat (y4 + y4 / 65536) (by omega)
 obtain ⟨y6, e6, b6, v6⟩ : ∃ y6 : Nat, IntKind.u64.wrap ((y5 : Int) + (y5 : Int) / 4294967296) = (y6 : Int) ∧ y6 < 1085102592571150096 * 4 ∧ Hid (y5 + y5 / 4294967296 = y6) := by
  refine ⟨y5 + y5 / 4294967296, ?_, by omega, rfl⟩
  exact wrap_nat (y5 + y5 / 4294967296) (by omega)
 have hend : pop 64 x = y6 % 128 := by
  rw [← swar_pop x hx, ← v6.out, ← v5.out, ← v4.out, ← v3.out, ← v2.out, ← v1.out]
  rfl
 rw [hend]
 go_enter Tryd.func77, Tryd.ntmps77
 go_wp2
 go_ret
 refine ⟨?_, rfl⟩
 simp [i64_and127]
theorem bit_run (i : Nat) (hi : i < 4294967296) (w : World) : Calls Tryd.prog 146 #[.int .i64 (i : Int)] w fun e w' => e = .returned (.int .u64 ((2 ^ (i % 64) : Nat) : Int)) ∧ w' = w := by
 go_enter Tryd.func146, Tryd.ntmps146
 go_wp2
 go_ret
 have hw := wrap_nat (2 ^ (i % 64)) (Nat.lt_of_lt_of_le (Nat.pow_lt_pow_right (by decide) (show i % 64 < 64 by omega)) (by decide))
 rw [Int.natCast_pow, show ((2 : Nat) : Int) = 2 from rfl] at hw
 refine ⟨?_, rfl⟩
 simp only [hw]
 simp
theorem smay_run (n : Int) (w : World) : Calls Tryd.prog 99 #[.int .i64 n] w fun e w' => e = .returned (.bool (decide (16 ≤ n ∧ n ≤ 512))) ∧ w' = w := by
 by_cases h1 : 16 ≤ n
 · go_enter Tryd.func99, Tryd.ntmps99
   go_wp2
   go_ret
   refine ⟨?_, rfl⟩
   simp [h1]
 · go_enter Tryd.func99, Tryd.ntmps99
   go_wp2
   go_ret
   refine ⟨?_, rfl⟩
   simp [h1]
   omega
theorem isLabel_run (i : Int) (w : World) : Calls Tryd.prog 145 #[.int .i64 i] w fun e w' => e = .returned (.bool (decide (i < 4))) ∧ w' = w := by
 go_enter Tryd.func145, Tryd.ntmps145
 go_wp2
 go_ret
 exact ⟨rfl, rfl⟩
end Go.Proofs.YthbldjnpnligpaaDoor
