/-
  Truths as bits of words and of bytes; no program here.
-/
import Derived.Test.YtfmfjaokpnadaaaSpPop
namespace Go.Proofs.Ytfmfjaokpnadaaa
set_option linter.unusedSimpArgs false
set_option linter.unusedVariables false

/-- Truths as one number: the first one is its lowest bit. -/
def pack : List Bool → Nat
  | [] => 0
  | b :: l => b.toNat + 2 * pack l

theorem pack_bit : ∀ (l : List Bool) (j : Nat), (pack l).testBit j = l.getD j false
  | [], j => by simp [pack]
  | b :: l, 0 => by
    rw [Nat.testBit_zero]
    cases b <;> simp [pack]
  | b :: l, j + 1 => by
    rw [Nat.testBit_succ, show pack (b :: l) / 2 = pack l by rw [pack]; cases b <;> simp <;> omega, pack_bit l j]
    simp

theorem pack_lt : ∀ l : List Bool, pack l < 2 ^ l.length
  | [] => by simp [pack]
  | b :: l => by
    have := pack_lt l
    simp only [pack, List.length_cons, Nat.pow_succ]
    cases b <;> simp <;> omega

/-- The word k. -/
def W (l : List Bool) (k : Nat) : Nat := pack l / 2 ^ (64 * k) % 2 ^ 64
/-- The byte k. -/
def Bt (l : List Bool) (k : Nat) : Nat := pack l / 2 ^ (8 * k) % 2 ^ 8

theorem W_lt (l : List Bool) (k : Nat) : W l k < 18446744073709551616 := Nat.mod_lt _ (by decide)
theorem Bt_lt (l : List Bool) (k : Nat) : Bt l k < 256 := Nat.mod_lt _ (by decide)

theorem W_bit (l : List Bool) (k j : Nat) : (W l k).testBit j = (decide (j < 64) && l.getD (64 * k + j) false) := by
  unfold W
  rw [Nat.testBit_mod_two_pow, Nat.testBit_div_two_pow, pack_bit, Nat.add_comm j]
theorem Bt_bit (l : List Bool) (k j : Nat) : (Bt l k).testBit j = (decide (j < 8) && l.getD (8 * k + j) false) := by
  unfold Bt
  rw [Nat.testBit_mod_two_pow, Nat.testBit_div_two_pow, pack_bit, Nat.add_comm j]

theorem getD_set (l : List Bool) (i j : Nat) (b : Bool) (hi : i < l.length) : (l.set i b).getD j false = if i = j then b else l.getD j false := by
  simp only [List.getD_eq_getElem?_getD, List.getElem?_set]
  split
  · simp [hi]
  · rfl

theorem W_use (l : List Bool) (i k : Nat) (hi : i < l.length) : W (l.set i true) k = if k = i / 64 then W l k ||| 2 ^ (i % 64) else W l k := by
  refine Nat.eq_of_testBit_eq fun j => ?_
  rw [W_bit, getD_set l i _ true hi]
  by_cases hk : k = i / 64
  · rw [if_pos hk, Nat.testBit_or, W_bit, Nat.testBit_two_pow]
    by_cases hj : j < 64
    · by_cases he : i = 64 * k + j
      · rw [if_pos he]; simp [hj, show i % 64 = j by omega]
      · rw [if_neg he]; simp [hj, show ¬ i % 64 = j by omega]
    · simp [hj, show ¬ i % 64 = j by omega]
  · rw [if_neg hk, W_bit]
    by_cases hj : j < 64
    · rw [if_neg (by omega)]
    · simp [hj]

theorem W_free (l : List Bool) (i k : Nat) (hi : i < l.length) : W (l.set i false) k = if k = i / 64 then W l k &&& (2 ^ 64 - 1 - 2 ^ (i % 64)) else W l k := by
  refine Nat.eq_of_testBit_eq fun j => ?_
  rw [W_bit, getD_set l i _ false hi]
  by_cases hk : k = i / 64
  · have hm : (2 ^ 64 - 1 - 2 ^ (i % 64)) = 2 ^ 64 - (2 ^ (i % 64) + 1) := by omega
    have hlt : 2 ^ (i % 64) < 2 ^ 64 := Nat.pow_lt_pow_right (by decide) (by omega)
    rw [if_pos hk, Nat.testBit_and, W_bit, hm, Nat.testBit_two_pow_sub_succ hlt, Nat.testBit_two_pow]
    by_cases hj : j < 64
    · by_cases he : i = 64 * k + j
      · rw [if_pos he]; simp [hj, show i % 64 = j by omega]
      · rw [if_neg he]; simp [hj, show ¬ i % 64 = j by omega]
    · simp [hj]
  · rw [if_neg hk, W_bit]
    by_cases hj : j < 64
    · rw [if_neg (by omega)]
    · simp [hj]

theorem and_pow (x j : Nat) : x &&& 2 ^ j = (x.testBit j).toNat * 2 ^ j := by
  refine Nat.eq_of_testBit_eq fun i => ?_
  rw [Nat.testBit_and, Nat.testBit_two_pow]
  by_cases h : j = i
  · subst h
    cases hx : x.testBit j <;> simp
  · cases hx : x.testBit j
    · simp [h]
    · simp [h, Nat.testBit_two_pow]

/-- Is its bit 1? -/
theorem W_used (l : List Bool) (i : Nat) : (W l (i / 64) &&& 2 ^ (i % 64)) = if l.getD i false then 2 ^ (i % 64) else 0 := by
  rw [and_pow, W_bit, show 64 * (i / 64) + i % 64 = i by omega]
  simp only [show i % 64 < 64 by omega, decide_true, Bool.true_and]
  cases l.getD i false <;> simp

theorem Bt_W (l : List Bool) (k : Nat) : W l (k * 8 / 64) / 2 ^ (k * 8 % 64) % 256 = Bt l k := by
  refine Nat.eq_of_testBit_eq fun j => ?_
  rw [show (256 : Nat) = 2 ^ 8 from rfl, Nat.testBit_mod_two_pow, Nat.testBit_div_two_pow, W_bit, Bt_bit]
  by_cases hj : j < 8
  · rw [show 64 * (k * 8 / 64) + (j + k * 8 % 64) = 8 * k + j by omega]
    simp [hj, show j + k * 8 % 64 < 64 by omega]
  · simp [hj]

theorem pop_pack : ∀ (n : Nat) (l : List Bool), pop n (pack l) = (l.take n).count true
  | 0, l => by simp [pop]
  | n + 1, [] => by
    have := pop_pack n []
    simp [pop, pack] at this ⊢; exact this
  | n + 1, b :: l => by
    have h := pop_pack n l
    rw [pop, show pack (b :: l) / 2 = pack l by rw [pack]; cases b <;> simp <;> omega, h, show pack (b :: l) % 2 = b.toNat by rw [pack]; cases b <;> simp <;> omega]
    cases b <;> simp <;> omega

theorem pop_mod (n x : Nat) : pop n (x % 2 ^ n) = pop n x := by
  have h := pop_split n 0 (x % 2 ^ n) (x / 2 ^ n) (Nat.mod_lt _ (Nat.two_pow_pos n))
  rw [Nat.mod_add_div] at h
  simp [pop] at h
  exact h.symm

theorem pop_next (l : List Bool) (k : Nat) : pop (64 * (k + 1)) (pack l) = pop (64 * k) (pack l) + pop 64 (W l k) := by
  have h := pop_split (64 * k) 64 (pack l % 2 ^ (64 * k)) (pack l / 2 ^ (64 * k)) (Nat.mod_lt _ (Nat.two_pow_pos _))
  rw [Nat.mod_add_div, pop_mod] at h
  rw [show 64 * (k + 1) = 64 * k + 64 by omega, h]
  unfold W
  rw [pop_mod]

theorem pop_all (l : List Bool) (h : l.length ≤ 512) : pop (64 * 8) (pack l) = l.count true := by
  rw [pop_pack, List.take_of_length_le (by omega)]

theorem pop_le (n : Nat) : ∀ x, pop n x ≤ n := by
  induction n with
  | zero => intro x; simp [pop]
  | succ n ih => intro x; have := ih (x / 2); rw [pop]; omega

theorem pop_len (l : List Bool) (n : Nat) : pop n (pack l) ≤ l.length := by
  rw [pop_pack]
  have h1 := List.count_le_length (a := true) (l := l.take n)
  have h2 : (l.take n).length ≤ l.length := by simp; omega
  omega

/-- How many are not used. -/
def freeN (l : List Bool) : Nat := l.count false
theorem free_eq (l : List Bool) (h : l.length ≤ 512) : (l.length : Int) - (pop (64 * 8) (pack l) : Nat) = (freeN l : Nat) := by
  rw [pop_all l h]
  unfold freeN
  have : l.count true + l.count false = l.length := by
    clear h
    induction l with
    | nil => rfl
    | cons b l ih => cases b <;> simp <;> omega
  omega
end Go.Proofs.Ytfmfjaokpnadaaa
