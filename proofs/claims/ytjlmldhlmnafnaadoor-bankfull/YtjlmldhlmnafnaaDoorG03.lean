/-
  Truths as bits of words and of bytes; no program here.
-/
import Derived.Test.YtjlmldhlmnafnaaDoorG02
import Derived.Test.YtjlmldhlmnafnaaDoorRows
import Derived.Test.YtjlmldhlmnafnaaDoorProg
import Derived.Test.YtjlmldhlmnafnaaDoorG01
import Derived.Laws.BitsAllLaws
import Derived.Laws.ShiftsVarLaws
import Derived.Deep.QuietTactic
import Derived.BigQuiet
import Derived.Laws.Bits128
namespace Go.Proofs.YtjlmldhlmnafnaaDoor
set_option linter.unusedSimpArgs false
set_option linter.unusedVariables false
set_option maxRecDepth 100000

/-- Truths as one number: the first one is its lowest bit. -/
def pack : List Bool → Nat
  | [] => 0
  | b :: l => b.toNat + 2 * pack l

theorem pack_bit : ∀ (l : List Bool) (j : Nat), (pack l).testBit j = l.getD j false
  | [], j => by simp [pack]
  | b :: l, 0 => by
    rw [Nat.testBit_zero]
    cases b <;> simp [pack]
  | b :: l, j + 1 => by
    rw [Nat.testBit_succ, show pack (b :: l) / 2 = pack l by rw [pack]; cases b <;> simp <;> omega, pack_bit l j]
    simp

theorem pack_lt : ∀ l : List Bool, pack l < 2 ^ l.length
  | [] => by simp [pack]
  | b :: l => by
    have := pack_lt l
    simp only [pack, List.length_cons, Nat.pow_succ]
    cases b <;> simp <;> omega

/-- The word k. -/
def W (l : List Bool) (k : Nat) : Nat := pack l / 2 ^ (64 * k) % 2 ^ 64
/-- The byte k. -/
def Bt (l : List Bool) (k : Nat) : Nat := pack l / 2 ^ (8 * k) % 2 ^ 8

theorem W_lt (l : List Bool) (k : Nat) : W l k < 18446744073709551616 := Nat.mod_lt _ (by decide)
theorem Bt_lt (l : List Bool) (k : Nat) : Bt l k < 256 := Nat.mod_lt _ (by decide)

theorem W_bit (l : List Bool) (k j : Nat) : (W l k).testBit j = (decide (j < 64) && l.getD (64 * k + j) false) := by
  unfold W
  rw [Nat.testBit_mod_two_pow, Nat.testBit_div_two_pow, pack_bit, Nat.add_comm j]
theorem Bt_bit (l : List Bool) (k j : Nat) : (Bt l k).testBit j = (decide (j < 8) && l.getD (8 * k + j) false) := by
  unfold Bt
  rw [Nat.testBit_mod_two_pow, Nat.testBit_div_two_pow, pack_bit, Nat.add_comm j]

theorem getD_set (l : List Bool) (i j : Nat) (b : Bool) (hi : i < l.length) : (l.set i b).getD j false = if i = j then b else l.getD j false := by
  simp only [List.getD_eq_getElem?_getD, List.getElem?_set]
  split
  · simp [hi]
  · rfl

theorem W_use (l : List Bool) (i k : Nat) (hi : i < l.length) : W (l.set i true) k = if k = i / 64 then W l k ||| 2 ^ (i % 64) else W l k := by
  refine Nat.eq_of_testBit_eq fun j => ?_
  rw [W_bit, getD_set l i _ true hi]
  by_cases hk : k = i / 64
  · rw [if_pos hk, Nat.testBit_or, W_bit, Nat.testBit_two_pow]
    by_cases hj : j < 64
    · by_cases he : i = 64 * k + j
      · rw [if_pos he]; simp [hj, show i % 64 = j by omega]
      · rw [if_neg he]; simp [hj, show ¬ i % 64 = j by omega]
    · simp [hj, show ¬ i % 64 = j by omega]
  · rw [if_neg hk, W_bit]
    by_cases hj : j < 64
    · rw [if_neg (by omega)]
    · simp [hj]

theorem W_free (l : List Bool) (i k : Nat) (hi : i < l.length) : W (l.set i false) k = if k = i / 64 then W l k &&& (2 ^ 64 - 1 - 2 ^ (i % 64)) else W l k := by
  refine Nat.eq_of_testBit_eq fun j => ?_
  rw [W_bit, getD_set l i _ false hi]
  by_cases hk : k = i / 64
  · have hm : (2 ^ 64 - 1 - 2 ^ (i % 64)) = 2 ^ 64 - (2 ^ (i % 64) + 1) := by omega
    have hlt : 2 ^ (i % 64) < 2 ^ 64 := Nat.pow_lt_pow_right (by decide) (by omega)
    rw [if_pos hk, Nat.testBit_and, W_bit, hm, Nat.testBit_two_pow_sub_succ hlt, Nat.testBit_two_pow]
    by_cases hj : j < 64
    · by_cases he : i = 64 * k + j
      · rw [if_pos he]; simp [hj, show i % 64 = j by omega]
      · rw [if_neg he]; simp [hj, show ¬ i % 64 = j by omega]
    · simp [hj]
  · rw [if_neg hk, W_bit]
    by_cases hj : j < 64
    · rw [if_neg (by omega)]
    · simp [hj]

theorem and_pow (x j : Nat) : x &&& 2 ^ j = (x.testBit j).toNat * 2 ^ j := by
  refine Nat.eq_of_testBit_eq fun i => ?_
  rw [Nat.testBit_and, Nat.testBit_two_pow]
  by_cases h : j = i
  · subst h
    cases hx : x.testBit j <;> simp
  · cases hx : x.testBit j
    · simp [h]
    · simp [h, Nat.testBit_two_pow]

/-- Is its bit 1? -/
theorem W_used (l : List Bool) (i : Nat) : (W l (i / 64) &&& 2 ^ (i % 64)) = if l.getD i false then 2 ^ (i % 64) else 0 := by
  rw [and_pow, W_bit, show 64 * (i / 64) + i % 64 = i by omega]
  simp only [show i % 64 < 64 by omega, decide_true, Bool.true_and]
  cases l.getD i false <;> simp

theorem Bt_W (l : List Bool) (k : Nat) : W l (k * 8 / 64) / 2 ^ (k * 8 % 64) % 256 = Bt l k := by
  refine Nat.eq_of_testBit_eq fun j => ?_
  rw [show (256 : Nat) = 2 ^ 8 from rfl, Nat.testBit_mod_two_pow, Nat.testBit_div_two_pow, W_bit, Bt_bit]
  by_cases hj : j < 8
  · rw [show 64 * (k * 8 / 64) + (j + k * 8 % 64) = 8 * k + j by omega]
    simp [hj, show j + k * 8 % 64 < 64 by omega]
  · simp [hj]

theorem pop_pack : ∀ (n : Nat) (l : List Bool), pop n (pack l) = (l.take n).count true
  | 0, l => by simp [pop]
  | n + 1, [] => by
    have := pop_pack n []
    simp [pop, pack] at this ⊢; exact this
  | n + 1, b :: l => by
    have h := pop_pack n l
    rw [pop, show pack (b :: l) / 2 = pack l by rw [pack]; cases b <;> simp <;> omega, h, show pack (b :: l) % 2 = b.toNat by rw [pack]; cases b <;> simp <;> omega]
    cases b <;> simp <;> omega

theorem pop_mod (n x : Nat) : pop n (x % 2 ^ n) = pop n x := by
  have h := pop_split n 0 (x % 2 ^ n) (x / 2 ^ n) (Nat.mod_lt _ (Nat.two_pow_pos n))
  rw [Nat.mod_add_div] at h
  simp [pop] at h
  exact h.symm

theorem pop_next (l : List Bool) (k : Nat) : pop (64 * (k + 1)) (pack l) = pop (64 * k) (pack l) + pop 64 (W l k) := by
  have h := pop_split (64 * k) 64 (pack l % 2 ^ (64 * k)) (pack l / 2 ^ (64 * k)) (Nat.mod_lt _ (Nat.two_pow_pos _))
  rw [Nat.mod_add_div, pop_mod] at h
  rw [show 64 * (k + 1) = 64 * k + 64 by omega, h]
  unfold W
  rw [pop_mod]

theorem pop_all (l : List Bool) (h : l.length ≤ 512) : pop (64 * 8) (pack l) = l.count true := by
  rw [pop_pack, List.take_of_length_le (by omega)]

theorem pop_le (n : Nat) : ∀ x, pop n x ≤ n := by
  induction n with
  | zero => intro x; simp [pop]
  | succ n ih => intro x; have := ih (x / 2); rw [pop]; omega

theorem pop_len (l : List Bool) (n : Nat) : pop n (pack l) ≤ l.length := by
  rw [pop_pack]
  have h1 := List.count_le_length (a := true) (l := l.take n)
  have h2 : (l.take n).length ≤ l.length := by simp; omega
  omega

/-- How many are not used. -/
def freeN (l : List Bool) : Nat := l.count false
theorem free_eq (l : List Bool) (h : l.length ≤ 512) : (l.length : Int) - (pop (64 * 8) (pack l) : Nat) = (freeN l : Nat) := by
  rw [pop_all l h]
  unfold freeN
  have : l.count true + l.count false = l.length := by
    clear h
    induction l with
    | nil => rfl
    | cons b l ih => cases b <;> simp <;> omega
  omega
end Go.Proofs.YtjlmldhlmnafnaaDoor

/-
  Package space: the small functions.
-/

namespace Go.Proofs.YtjlmldhlmnafnaaDoor
set_option linter.unusedSimpArgs false
set_option linter.unusedVariables false
set_option maxRecDepth 100000
open Go.RowKit

theorem wrap_nat (n : Nat) (h : n < 18446744073709551616) : IntKind.u64.wrap (n : Int) = (n : Int) := by
  rw [show IntKind.u64.wrap (n : Int) = (n : Int) % 18446744073709551616 by simp [IntKind.wrap, IntKind.bits, IntKind.signed]]; omega

theorem ones_run (x : Nat) (hx : x < 18446744073709551616) (w : World) : Calls Tryd.prog 95 #[.int .u64 (x : Int)] w fun e w' => e = .returned (.int .i64 ((pop 64 x : Nat) : Int)) ∧ w' = w := by
  obtain ⟨y1, e1, b1, v1⟩ : ∃ y1 : Nat, IntKind.u64.wrap (bits .and .u64 ((x : Int) / 2) 6148914691236517205 + bits .and .u64 (x : Int) 6148914691236517205) = (y1 : Int) ∧ y1 < 12297829382473034411 ∧ Hid (p1 m0 x = y1) := by
    have a1 := Nat.and_le_right (n := x / 2) (m := m0)
    have a2 := Nat.and_le_right (n := x) (m := m0)
    refine ⟨p1 m0 x, ?_, by unfold p1 m0 at *; omega, rfl⟩
    have f1 := u64_and_nat (x / 2) m0 (by omega) (by decide)
    have f2 := u64_and_nat x m0 hx (by decide)
    rw [Int.natCast_ediv] at f1
    unfold m0 at f1 f2 a1 a2
    rw [show ((2 : Nat) : Int) = 2 from rfl] at f1
    rw [show ((6148914691236517205 : Nat) : Int) = 6148914691236517205 from rfl] at f1 f2
    rw [f1, f2, ← Int.natCast_add, wrap_nat _ (by omega)]
    rfl
  obtain ⟨y2, e2, b2, v2⟩ : ∃ y2 : Nat, IntKind.u64.wrap (bits .and .u64 ((y1 : Int) / 4) 3689348814741910323 + bits .and .u64 (y1 : Int) 3689348814741910323) = (y2 : Int) ∧ y2 < 7378697629483820647 ∧ Hid (p2 m1 y1 = y2) := by
    have a1 := Nat.and_le_right (n := y1 / 4) (m := m1)
    have a2 := Nat.and_le_right (n := y1) (m := m1)
    refine ⟨p2 m1 y1, ?_, by unfold p2 m1 at *; omega, rfl⟩
    have f1 := u64_and_nat (y1 / 4) m1 (by omega) (by decide)
    have f2 := u64_and_nat y1 m1 (by omega) (by decide)
    rw [Int.natCast_ediv] at f1
    unfold m1 at f1 f2 a1 a2
    rw [show ((4 : Nat) : Int) = 4 from rfl] at f1
    rw [show ((3689348814741910323 : Nat) : Int) = 3689348814741910323 from rfl] at f1 f2
    rw [f1, f2, ← Int.natCast_add, wrap_nat _ (by omega)]
    rfl
  obtain ⟨y3, e3, b3, v3⟩ : ∃ y3 : Nat, bits .and .u64 ((y2 : Int) / 16 + (y2 : Int)) 1085102592571150095 = (y3 : Int) ∧ y3 < 1085102592571150096 ∧ Hid ((y2 / 16 + y2) &&& m2 = y3) := by
    have a1 := Nat.and_le_right (n := y2 / 16 + y2) (m := m2)
    refine ⟨(y2 / 16 + y2) &&& m2, ?_, by unfold m2 at *; omega, rfl⟩
    have f1 := u64_and_nat (y2 / 16 + y2) m2 (by omega) (by decide)
    exact f1
  obtain ⟨y4, e4, b4, v4⟩ : ∃ y4 : Nat, IntKind.u64.wrap ((y3 : Int) + (y3 : Int) / 256) = (y4 : Int) ∧ y4 < 1085102592571150096 * 2 ∧ Hid (y3 + y3 / 256 = y4) := by
    refine ⟨y3 + y3 / 256, ?_, by omega, rfl⟩
    exact wrap_nat (y3 + y3 / 256) (by omega)
  obtain ⟨y5, e5, b5, v5⟩ : ∃ y5 : Nat, IntKind.u64.wrap ((y4 : Int) + (y4 : Int) / 65536) = (y5 : Int) ∧ y5 < 1085102592571150096 * 3 ∧ Hid (y4 + y4 / 65536 = y5) := by
    refine ⟨y4 + y4 / 65536, ?_, by omega, rfl⟩
    exact wrap_nat (y4 + y4 / 65536) (by omega)
  obtain ⟨y6, e6, b6, v6⟩ : ∃ y6 : Nat, IntKind.u64.wrap ((y5 : Int) + (y5 : Int) / 4294967296) = (y6 : Int) ∧ y6 < 1085102592571150096 * 4 ∧ Hid (y5 + y5 / 4294967296 = y6) := by
    refine ⟨y5 + y5 / 4294967296, ?_, by omega, rfl⟩
    exact wrap_nat (y5 + y5 / 4294967296) (by omega)
  have hend : pop 64 x = y6 % 128 := by
    rw [← swar_pop x hx, ← v6.out, ← v5.out, ← v4.out, ← v3.out, ← v2.out, ← v1.out]
    rfl
  rw [hend]
  go_enter Tryd.func95, Tryd.ntmps95
  go_wp2
  go_ret
  refine ⟨?_, rfl⟩
  simp [i64_and127]

theorem bit_run (i : Nat) (hi : i < 4294967296) (w : World) : Calls Tryd.prog 85 #[.int .i64 (i : Int)] w fun e w' => e = .returned (.int .u64 ((2 ^ (i % 64) : Nat) : Int)) ∧ w' = w := by
  go_enter Tryd.func85, Tryd.ntmps85
  go_wp2
  go_ret
  have hw := wrap_nat (2 ^ (i % 64)) (Nat.lt_of_lt_of_le (Nat.pow_lt_pow_right (by decide) (show i % 64 < 64 by omega)) (by decide))
  rw [Int.natCast_pow, show ((2 : Nat) : Int) = 2 from rfl] at hw
  refine ⟨?_, rfl⟩
  simp only [hw]
  simp

theorem smay_run (n : Int) (w : World) : Calls Tryd.prog 61 #[.int .i64 n] w fun e w' => e = .returned (.bool (decide (16 ≤ n ∧ n ≤ 512))) ∧ w' = w := by
  by_cases h1 : 16 ≤ n
  · go_enter Tryd.func61, Tryd.ntmps61
    go_wp2
    go_ret
    refine ⟨?_, rfl⟩
    simp [h1]
  · go_enter Tryd.func61, Tryd.ntmps61
    go_wp2
    go_ret
    refine ⟨?_, rfl⟩
    simp [h1]
    omega

theorem isLabel_run (i : Int) (w : World) : Calls Tryd.prog 84 #[.int .i64 i] w fun e w' => e = .returned (.bool (decide (i < 4))) ∧ w' = w := by
  go_enter Tryd.func84, Tryd.ntmps84
  go_wp2
  go_ret
  exact ⟨rfl, rfl⟩
end Go.Proofs.YtjlmldhlmnafnaaDoor

/-
  NParts of bytes, laid one behind the other; no function here.
-/

namespace Go.Proofs.YtjlmldhlmnafnaaDoor
set_option linter.unusedSimpArgs false
set_option linter.unusedVariables false
set_option maxRecDepth 100000
open Go.RowKit

theorem Tryd.info5 : (Tryd.prog.info? 5).map (fun i => (i.zero, i.size, i.bytes)) = some (some (.int .u8 0), 1, 1) := by kernel_rfl

theorem rng_snoc {xs : List Int} {y : Int} (h : ∀ x ∈ xs, 0 ≤ x ∧ x ≤ 255) (hy : 0 ≤ y ∧ y ≤ 255) : ∀ x ∈ xs ++ [y], 0 ≤ x ∧ x ≤ 255 := by
  intro x hx
  rcases List.mem_append.1 hx with hx | hx
  · exact h x hx
  · rw [List.mem_singleton.1 hx]; exact hy

structure NPart where
  a : Option Addr
  c : Nat
  xs : List Int

def NPart.val (p : NPart) : Value := .slice p.a p.xs.length p.c

def flat : List NPart → List Int
  | [] => []
  | p :: ps => p.xs ++ flat ps

theorem flat_append (p q : List NPart) : flat (p ++ q) = flat p ++ flat q := by
  induction p with
  | nil => rfl
  | cons x p ih => simp [flat, ih]

theorem flat_rng {ps : List NPart} (h : ∀ p ∈ ps, ∀ x ∈ p.xs, (0 : Int) ≤ x ∧ x ≤ 255) : ∀ x ∈ flat ps, 0 ≤ x ∧ x ≤ 255 := by
  induction ps with
  | nil => simp [flat]
  | cons p ps ih =>
    intro x hx
    rcases List.mem_append.1 hx with hx | hx
    · exact h p (by simp) x hx
    · exact ih (fun q hq => h q (by simp [hq])) x hx

structure Ps (w : World) (a : Option Addr) (ps : List NPart) : Prop where
  bs : ∀ p ∈ ps, Bs w p.a p.c p.xs
  lay : ps = [] ∨ ∃ b off, a = some ⟨b, off, none⟩ ∧ ∀ i (hi : i < ps.length), w.cell? ⟨b, off + i, none⟩ = some ps[i].val

theorem Ps.empty (w : World) : Ps w none [] := ⟨by simp, .inl rfl⟩

theorem Ps.stays {w w' : World} {a : Option Addr} {ps : List NPart} (h : Ps w a ps) (hb : Below w.heap.size w w') : Ps w' a ps := by
  refine ⟨fun p hp => (h.bs p hp).stays hb, ?_⟩
  rcases h.lay with h | ⟨b, off, rfl, hc⟩
  · exact .inl h
  · refine .inr ⟨b, off, rfl, fun i hi => ?_⟩
    rw [hb.cell (World.block_lt_of_cell? w _ (hc i hi))]
    exact hc i hi

theorem flat_take_succ (ps : List NPart) (j : Nat) (h : j < ps.length) : flat (ps.take (j + 1)) = flat (ps.take j) ++ ps[j].xs := by
  rw [List.take_succ_eq_append_getElem h, flat_append]; simp [flat]

theorem flat_take_le (ps : List NPart) (j : Nat) : (flat (ps.take j)).length ≤ (flat ps).length := by
  have : flat ps = flat (ps.take j) ++ flat (ps.drop j) := by rw [← flat_append, List.take_append_drop]
  rw [this]; simp

theorem Tryd.elem43 : Tryd.prog.elem 43 = 5 := by kernel_rfl

theorem Tryd.size5 : (Tryd.prog.info? 5).map (·.size) = some 1 := by kernel_rfl

theorem ret_slice {a : Option Addr} {n m c : Nat} (h : n = m) : Ending.returned (.slice a n c) = .returned (.slice a m c) := by rw [h]

theorem below_then {w w1 w2 : World} (h1 : Below w.heap.size w w1) (h2 : Below w1.heap.size w1 w2) : Below w.heap.size w w2 := h1.trans (h2.mono h1.size)

theorem Ps.one {w : World} {a : Option Addr} {c : Nat} {xs : List Int} (h : Bs w a c xs) (t : TypeId) : Ps (w.alloc (.cells #[.slice a xs.length c] t)) (some ⟨w.heap.size, 0, none⟩) [⟨a, c, xs⟩] := by
  refine ⟨fun p hp => ?_, .inr ⟨_, _, rfl, fun i hi => ?_⟩⟩
  · rw [List.mem_singleton.1 hp]; exact h.stays ((Below.refl _ _).alloc (Nat.le_refl _) _)
  · have : i = 0 := by simpa using hi
    subst this
    simp [NPart.val]

theorem Ps.two {w : World} {a a2 : Option Addr} {c c2 : Nat} {xs ys : List Int} (h : Bs w a c xs) (h2 : Bs w a2 c2 ys) (t : TypeId) :
    Ps (w.alloc (.cells #[.slice a xs.length c, .slice a2 ys.length c2] t)) (some ⟨w.heap.size, 0, none⟩) [⟨a, c, xs⟩, ⟨a2, c2, ys⟩] := by
  refine ⟨fun p hp => ?_, .inr ⟨_, _, rfl, fun i hi => ?_⟩⟩
  · have hb := (Below.refl w.heap.size w).alloc (Nat.le_refl _) (.cells #[.slice a xs.length c, .slice a2 ys.length c2] t)
    simp only [List.mem_cons, List.not_mem_nil, or_false] at hp
    rcases hp with rfl | rfl
    · exact h.stays hb
    · exact h2.stays hb
  · have : i = 0 ∨ i = 1 := by simp at hi; omega
    rcases this with rfl | rfl <;> simp [NPart.val]

theorem getD_rng {xs : List Int} (h : ∀ x ∈ xs, 0 ≤ x ∧ x ≤ 255) (k : Nat) (hk : k < xs.length) : 0 ≤ xs.getD k 0 ∧ xs.getD k 0 ≤ 255 := by
  have := h _ (List.getElem_mem hk); simpa [List.getD, hk] using this

theorem drop_cons {xs : List Int} {k : Nat} (hk : k < xs.length) : xs.drop k = xs.getD k 0 :: xs.drop (k + 1) := by
  rw [List.drop_eq_getElem_cons hk]; simp [List.getD, hk]

end Go.Proofs.YtjlmldhlmnafnaaDoor
