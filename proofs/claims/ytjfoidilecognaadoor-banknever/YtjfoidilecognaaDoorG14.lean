/-
  The document's Take: one contract.
-/
import Derived.Test.YtjfoidilecognaaDoorG13
import Derived.Test.YtjfoidilecognaaDoorG01
import Derived.Test.YtjfoidilecognaaDoorRows
import Derived.Test.YtjfoidilecognaaDoorG02
import Derived.Laws.BitsAllLaws
import Derived.Laws.ShiftsVarLaws
import Derived.Deep.QuietTactic
import Derived.BigQuiet
namespace Go.Proofs.YtjfoidilecognaaDoor
set_option linter.unusedSimpArgs false
set_option linter.unusedVariables false
set_option maxRecDepth 100000
open Go.RowKit

theorem blk_ne {e e' : TypeId} {w : World} {g g' : Nat} {vs vs' : List Value} (h : Blk e w g vs) (h' : Blk e' w g' vs') (hne : e ≠ e') : g ≠ g' := by
  rintro rfl
  unfold Blk at *
  rw [h] at h'
  simp at h'
  exact hne h'.2

theorem takeL_rng (l : List Bool) (k : Int) (hl : l.length ≤ 512) : ∀ x ∈ (takeL l k).2.1, x < 4294967296 := by
  unfold takeL
  split
  · simp
  · split
    · simp
    · intro x hx
      have := (Fr_mem.1 (List.mem_of_mem_take hx)).1
      omega

theorem takeL_few (l : List Bool) (k : Int) : (takeL l k).2.1.length ≤ 8 := by
  unfold takeL
  split
  · simp
  · split
    · simp
    · simp; omega

section
variable {g c : Nat} {l : List Bool}

theorem rtake_run (n : Nat) (k : Int) (w : World) (hT : Tr w g c l) (hn : n = l.length) (h16 : 16 ≤ n) (hl : n ≤ 512) :
    Calls Tryd.prog 62 #[.agg #[.slice (some ⟨g, 0, none⟩) n c], .int .i64 k] w fun e w' =>
      ∃ q cq v, e = .returned (.tuple #[.agg #[.slice (some ⟨q, 0, none⟩) n cq], v, .int .i64 ((takeL l k).2.2 : Int)]) ∧ Tr w' q cq (takeL l k).1 ∧ Nums w.heap.size w' v (takeL l k).2.1 ∧ Below w.heap.size w w' := by
  unfold takeL
  by_cases h1 : k < 0 ∨ 8 < k
  · rw [if_pos h1]
    refine (rtake_bad n k h1 w).mono ?_
    rintro e w' ⟨rfl, hb⟩
    exact ⟨_, _, _, rfl, hT.stays hb, Nums.none _ _, hb⟩
  · rw [if_neg h1]
    obtain ⟨m, rfl⟩ : ∃ m : Nat, k = (m : Int) := ⟨k.toNat, by omega⟩
    by_cases h2 : (freeN l : Int) < (m : Int)
    · rw [if_pos h2]
      refine (rtake_full n m (by omega) w hT hn hl (by omega)).mono ?_
      rintro e w' ⟨rfl, hb⟩
      exact ⟨_, _, _, rfl, hT.stays hb, Nums.none _ _, hb⟩
    · rw [if_neg h2]
      refine (rtake_some n m (by omega) w hT hn h16 hl (by omega)).mono ?_
      rintro e w' ⟨q, cq, v, h3, h4, h5, _, h6⟩
      exact ⟨q, cq, v, h3, h4, h5, h6⟩
end

end Go.Proofs.YtjfoidilecognaaDoor

/-
  Package sha: turned numbers.
-/

namespace Go.Proofs.YtjfoidilecognaaDoor
set_option linter.unusedSimpArgs false
set_option linter.unusedVariables false
set_option maxRecDepth 100000
open Go.RowKit

/-- x turned right by n. -/
def rotr (x n : Nat) : Nat := (x * 2 ^ (32 - n) % 4294967296) ||| (x / 2 ^ n)

theorem rotr_lt (x n : Nat) (hx : x < 4294967296) : rotr x n < 4294967296 := by
  unfold rotr
  apply Nat.or_lt_two_pow (n := 32)
  · exact Nat.mod_lt _ (by decide)
  · exact Nat.lt_of_le_of_lt (Nat.div_le_self _ _) hx

theorem xor_lt (a b : Nat) (ha : a < 4294967296) (hb : b < 4294967296) : a ^^^ b < 4294967296 := Nat.xor_lt_two_pow (n := 32) ha hb
theorem and_lt' (a b : Nat) (ha : a < 4294967296) : a &&& b < 4294967296 := Nat.lt_of_le_of_lt Nat.and_le_left ha
theorem div_lt' (a b : Nat) (ha : a < 4294967296) : a / b < 4294967296 := Nat.lt_of_le_of_lt (Nat.div_le_self _ _) ha

def s0 (x : Nat) : Nat := (rotr x 7 ^^^ rotr x 18) ^^^ x / 8
def s1 (x : Nat) : Nat := (rotr x 17 ^^^ rotr x 19) ^^^ x / 1024
def g0 (x : Nat) : Nat := (rotr x 2 ^^^ rotr x 13) ^^^ rotr x 22
def g1 (x : Nat) : Nat := (rotr x 6 ^^^ rotr x 11) ^^^ rotr x 25

theorem s0_lt (x : Nat) (hx : x < 4294967296) : s0 x < 4294967296 := xor_lt _ _ (xor_lt _ _ (rotr_lt _ _ hx) (rotr_lt _ _ hx)) (div_lt' _ _ hx)
theorem s1_lt (x : Nat) (hx : x < 4294967296) : s1 x < 4294967296 := xor_lt _ _ (xor_lt _ _ (rotr_lt _ _ hx) (rotr_lt _ _ hx)) (div_lt' _ _ hx)
theorem g0_lt (x : Nat) (hx : x < 4294967296) : g0 x < 4294967296 := xor_lt _ _ (xor_lt _ _ (rotr_lt _ _ hx) (rotr_lt _ _ hx)) (rotr_lt _ _ hx)
theorem g1_lt (x : Nat) (hx : x < 4294967296) : g1 x < 4294967296 := xor_lt _ _ (xor_lt _ _ (rotr_lt _ _ hx) (rotr_lt _ _ hx)) (rotr_lt _ _ hx)

theorem rotateLeft_run (x n : Nat) (hx : x < 4294967296) (h1 : 1 ≤ n) (h2 : n ≤ 31) (w : World) :
    Calls Tryd.prog 102 #[.int .u32 (x : Int), .int .i64 (-(n : Int))] w fun e w' => e = .returned (.int .u32 (rotr x n : Nat)) ∧ w' = w := by
  have hc : IntKind.u64.wrap (-(n : Int)) = 18446744073709551616 - n := by
    simp [IntKind.wrap, IntKind.bits, IntKind.signed]; omega
  have hs : bits .and .u64 (18446744073709551616 - (n : Int)) 31 = ((32 - n : Nat) : Int) := by
    have h := u64_and (18446744073709551616 - (n : Int)) 31 (by omega) (by omega) (by decide) (by decide)
    rw [h]
    have e : (18446744073709551616 - (n : Int)).toNat = 18446744073709551616 - n := by omega
    rw [e]
    have e2 : (31 : Int).toNat = 2 ^ 5 - 1 := rfl
    rw [e2, Nat.and_two_pow_sub_one_eq_mod]
    congr 1
    omega
  have ho : bits BinOp.or IntKind.u32 ((x : Int) * 2 ^ (32 - n) % 4294967296) ((x : Int) / 2 ^ (32 - (32 - n))) = ((rotr x n : Nat) : Int) := by
    have e1 : (x : Int) * 2 ^ (32 - n) % 4294967296 = ((x * 2 ^ (32 - n) % 4294967296 : Nat) : Int) := by rw [Int.natCast_emod, Int.natCast_mul, Int.natCast_pow]; rfl
    have e2 : (x : Int) / 2 ^ (32 - (32 - n)) = ((x / 2 ^ n : Nat) : Int) := by
      rw [show 32 - (32 - n) = n by omega, Int.natCast_ediv, Int.natCast_pow]; rfl
    rw [e1, e2, u32_or_nat _ _ (Nat.mod_lt _ (Nat.zero_lt_of_lt hx)) (div_lt' _ _ hx)]
    rfl
  go_enter Tryd.func102, Tryd.ntmps102
  go_wp2
  go_ret
  exact ⟨rfl, rfl⟩

theorem rotated_run (x n : Nat) (hx : x < 4294967296) (h1 : 1 ≤ n) (h2 : n ≤ 31) (w : World) :
    Calls Tryd.prog 101 #[.int .u32 (x : Int), .int .i64 (n : Int)] w fun e w' => e = .returned (.int .u32 (rotr x n : Nat)) ∧ w' = w := by
  go_enter Tryd.func101, Tryd.ntmps101
  go_wp2_with (go_at_call 102; go_must (refine (rotateLeft_run x n hx h1 h2 _).mono ?_); rintro e w' ⟨rfl, rfl⟩)
  go_ret
  exact ⟨rfl, rfl⟩

theorem rotated_by (x : Nat) (m : Int) (hx : x < 4294967296) (h1 : 1 ≤ m) (h2 : m ≤ 31) (w : World) :
    Calls Tryd.prog 101 #[.int .u32 (x : Int), .int .i64 m] w fun e w' => e = .returned (.int .u32 (rotr x m.toNat : Nat)) ∧ w' = w := by
  have h := rotated_run x m.toNat hx (by omega) (by omega) w
  rw [Int.toNat_of_nonneg (by omega)] at h
  exact h

theorem small0_run (x : Nat) (hx : x < 4294967296) (w : World) :
    Calls Tryd.prog 100 #[.int .u32 (x : Int)] w fun e w' => e = .returned (.int .u32 (s0 x : Nat)) ∧ w' = w := by
  obtain ⟨y, hy⟩ : ∃ y, y = x / 8 := ⟨_, rfl⟩
  have hyl : y < 4294967296 := hy ▸ div_lt' _ _ hx
  have e1 := u32_xor_nat (rotr x 7) (rotr x 18) (rotr_lt _ _ hx) (rotr_lt _ _ hx)
  have e2 := u32_xor_nat ((rotr x 7) ^^^ (rotr x 18)) y (xor_lt _ _ (rotr_lt _ _ hx) (rotr_lt _ _ hx)) hyl
  have e3 : (x : Int) / 8 = (y : Int) := by omega
  have HY : Hid (y = x / 8) := hy
  clear hy
  go_enter Tryd.func100, Tryd.ntmps100
  go_wp2_with (go_at_call 101; go_must (refine (rotated_by x _ hx (by decide) (by decide) _).mono ?_); rintro e w' ⟨rfl, rfl⟩)
  go_ret
  exact ⟨by rw [HY.out]; rfl, rfl⟩

theorem small1_run (x : Nat) (hx : x < 4294967296) (w : World) :
    Calls Tryd.prog 99 #[.int .u32 (x : Int)] w fun e w' => e = .returned (.int .u32 (s1 x : Nat)) ∧ w' = w := by
  obtain ⟨y, hy⟩ : ∃ y, y = x / 1024 := ⟨_, rfl⟩
  have hyl : y < 4294967296 := hy ▸ div_lt' _ _ hx
  have e1 := u32_xor_nat (rotr x 17) (rotr x 19) (rotr_lt _ _ hx) (rotr_lt _ _ hx)
  have e2 := u32_xor_nat ((rotr x 17) ^^^ (rotr x 19)) y (xor_lt _ _ (rotr_lt _ _ hx) (rotr_lt _ _ hx)) hyl
  have e3 : (x : Int) / 1024 = (y : Int) := by omega
  have HY : Hid (y = x / 1024) := hy
  clear hy
  go_enter Tryd.func99, Tryd.ntmps99
  go_wp2_with (go_at_call 101; go_must (refine (rotated_by x _ hx (by decide) (by decide) _).mono ?_); rintro e w' ⟨rfl, rfl⟩)
  go_ret
  exact ⟨by rw [HY.out]; rfl, rfl⟩

theorem great0_run (x : Nat) (hx : x < 4294967296) (w : World) :
    Calls Tryd.prog 98 #[.int .u32 (x : Int)] w fun e w' => e = .returned (.int .u32 (g0 x : Nat)) ∧ w' = w := by
  have e1 := u32_xor_nat (rotr x 2) (rotr x 13) (rotr_lt _ _ hx) (rotr_lt _ _ hx)
  have e2 := u32_xor_nat ((rotr x 2) ^^^ (rotr x 13)) (rotr x 22) (xor_lt _ _ (rotr_lt _ _ hx) (rotr_lt _ _ hx)) (rotr_lt _ _ hx)
  go_enter Tryd.func98, Tryd.ntmps98
  go_wp2_with (go_at_call 101; go_must (refine (rotated_by x _ hx (by decide) (by decide) _).mono ?_); rintro e w' ⟨rfl, rfl⟩)
  go_ret
  exact ⟨rfl, rfl⟩

theorem great1_run (x : Nat) (hx : x < 4294967296) (w : World) :
    Calls Tryd.prog 97 #[.int .u32 (x : Int)] w fun e w' => e = .returned (.int .u32 (g1 x : Nat)) ∧ w' = w := by
  have e1 := u32_xor_nat (rotr x 6) (rotr x 11) (rotr_lt _ _ hx) (rotr_lt _ _ hx)
  have e2 := u32_xor_nat ((rotr x 6) ^^^ (rotr x 11)) (rotr x 25) (xor_lt _ _ (rotr_lt _ _ hx) (rotr_lt _ _ hx)) (rotr_lt _ _ hx)
  go_enter Tryd.func97, Tryd.ntmps97
  go_wp2_with (go_at_call 101; go_must (refine (rotated_by x _ hx (by decide) (by decide) _).mono ?_); rintro e w' ⟨rfl, rfl⟩)
  go_ret
  exact ⟨rfl, rfl⟩

end Go.Proofs.YtjfoidilecognaaDoor

/-
  Package sha: the words of a block.
-/

namespace Go.Proofs.YtjfoidilecognaaDoor
set_option linter.unusedSimpArgs false
set_option linter.unusedVariables false
set_option maxRecDepth 100000
open Go.RowKit

/-- A number of 4 bytes. -/
def four (x0 x1 x2 x3 : Nat) : Nat := ((x0 * 16777216 ||| x1 * 65536) ||| x2 * 256) ||| x3

def byteAt (bs : List Int) (i : Nat) : Nat := (bs.getD i 0).toNat

def word (bs : List Int) (t : Nat) : Nat := four (byteAt bs (4 * t)) (byteAt bs (4 * t + 1)) (byteAt bs (4 * t + 2)) (byteAt bs (4 * t + 3))

theorem byteAt_eq (bs : List Int) (hb : ∀ x ∈ bs, 0 ≤ x ∧ x ≤ 255) (i : Nat) : bs.getD i 0 = (byteAt bs i : Int) ∧ byteAt bs i < 256 := by
  unfold byteAt
  rcases Nat.lt_or_ge i bs.length with h | h
  · have := hb (bs[i]) (List.getElem_mem h)
    simp [List.getD, h]; omega
  · simp [List.getD, List.getElem?_eq_none h]

theorem or_lt' (a b : Nat) (ha : a < 4294967296) (hb : b < 4294967296) : a ||| b < 4294967296 := Nat.or_lt_two_pow (n := 32) ha hb

def add32 (a b : Nat) : Nat := (a + b) % 4294967296
theorem add32_lt (a b : Nat) : add32 a b < 4294967296 := Nat.mod_lt _ (by decide)
theorem wrap_add32 (a b : Nat) : IntKind.u32.wrap ((a : Int) + (b : Int)) = (add32 a b : Nat) := by rw [IntKind.wrap_u32]; unfold add32; omega

def nextWord (ws : List Nat) (n : Nat) : Nat := add32 (add32 (add32 (s1 (ws.getD (n - 2) 0)) (ws.getD (n - 7) 0)) (s0 (ws.getD (n - 15) 0))) (ws.getD (n - 16) 0)

def grown (bs : List Int) (l : List Nat) (n : Nat) : List Nat := l ++ [if n < 16 then word bs n else nextWord l n]
/-- The first n words of a block. -/
def grow (bs : List Int) : Nat → List Nat
  | 0 => []
  | n + 1 => grown bs (grow bs n) n

def ints (l : List Nat) : List Int := l.map fun (n : Nat) => (n : Int)

theorem ints_length (l : List Nat) : (ints l).length = l.length := by simp [ints]
theorem ints_append (l m : List Nat) : ints (l ++ m) = ints l ++ ints m := by simp [ints]
theorem ints_getD (l : List Nat) (i : Nat) : (ints l).getD i 0 = ((l.getD i 0 : Nat) : Int) := by
  unfold ints
  rcases Nat.lt_or_ge i l.length with h | h
  · simp [List.getD, h]
  · simp [List.getD, List.getElem?_eq_none h]

theorem grow_length (bs : List Int) (n : Nat) : (grow bs n).length = n := by
  induction n with
  | zero => rfl
  | succ n ih => simp [grow, grown, ih]

theorem word_lt (bs : List Int) (hb : ∀ x ∈ bs, 0 ≤ x ∧ x ≤ 255) (t : Nat) : word bs t < 4294967296 := by
  have h0 := (byteAt_eq bs hb (4 * t)).2
  have h1 := (byteAt_eq bs hb (4 * t + 1)).2
  have h2 := (byteAt_eq bs hb (4 * t + 2)).2
  have h3 := (byteAt_eq bs hb (4 * t + 3)).2
  unfold word four
  exact or_lt' _ _ (or_lt' _ _ (or_lt' _ _ (by omega) (by omega)) (by omega)) (by omega)

theorem getD_lt {l : List Nat} (h : ∀ x ∈ l, x < 4294967296) (i : Nat) : l.getD i 0 < 4294967296 := by
  rcases Nat.lt_or_ge i l.length with h1 | h1
  · simpa [List.getD, h1] using h _ (List.getElem_mem h1)
  · simp [List.getD, List.getElem?_eq_none h1]

theorem grow_lt (bs : List Int) (hb : ∀ x ∈ bs, 0 ≤ x ∧ x ≤ 255) (n : Nat) : ∀ x ∈ grow bs n, x < 4294967296 := by
  induction n with
  | zero => simp [grow]
  | succ n ih =>
    intro x hx
    simp only [grow, grown, List.mem_append, List.mem_singleton] at hx
    rcases hx with hx | hx
    · exact ih x hx
    · subst hx
      split
      · exact word_lt bs hb n
      · exact add32_lt _ _

set_option maxRecDepth 100000 in
set_option maxHeartbeats 2000000 in
theorem words_run (bs : List Int) (hl : bs.length = 64) (hb : ∀ x ∈ bs, 0 ≤ x ∧ x ≤ 255) (w : World) :
    Calls Tryd.prog 96 #[.agg (bs.map (Value.int .u8)).toArray] w fun e w' => e = .returned (.agg ((ints (grow bs 64)).map (Value.int .u32)).toArray) ∧ Below w.heap.size w w' := by
  obtain ⟨B, hB⟩ : ∃ B, B = w.heap.size := ⟨_, rfl⟩
  go_enter Tryd.func96, Tryd.ntmps96
  go_wp2
  go_loopw [6] (fun i wr => ∃ k : Nat, k ≤ 16 ∧ i = .int .i64 k ∧ Below w.heap.size w wr ∧ Arr .u8 152 wr w.heap.size bs ∧ Arr .u32 160 wr (w.heap.size + 1) (List.replicate 64 0) ∧
      Arr .u32 160 wr (w.heap.size + 1 + 1) (ints (grow bs k) ++ List.replicate (64 - k) 0)) (fun i _ => 16 - (intOf i).toNat)
  case atStart =>
    refine ⟨0, by omega, rfl, (((Below.refl _ _).alloc (Nat.le_refl _) _).alloc (by simp) _).alloc (by simp; omega) _, ((Arr.new rfl).alloc _).alloc _, ?_, ?_⟩
    · refine Arr.alloc (Arr.newAt (cur := List.replicate 64 0) ?_ ?_) _
      · simp
      · rfl
    · refine Arr.newAt ?_ ?_
      · simp
      · rfl
  case round =>
    rename_i hrel
    obtain ⟨k, hk, rfl, hbel, ha, hr, hm⟩ := hrel
    by_cases hlt : k < 16
    · obtain ⟨x0, hx0⟩ : ∃ x, x = byteAt bs (4 * k) := ⟨_, rfl⟩
      obtain ⟨x1, hx1⟩ : ∃ x, x = byteAt bs (4 * k + 1) := ⟨_, rfl⟩
      obtain ⟨x2, hx2⟩ : ∃ x, x = byteAt bs (4 * k + 2) := ⟨_, rfl⟩
      obtain ⟨x3, hx3⟩ : ∃ x, x = byteAt bs (4 * k + 3) := ⟨_, rfl⟩
      obtain ⟨p0, hp0⟩ : ∃ p, p = 4 * k := ⟨_, rfl⟩
      obtain ⟨p1, hp1⟩ : ∃ p, p = 4 * k + 1 := ⟨_, rfl⟩
      obtain ⟨p2, hp2⟩ : ∃ p, p = 4 * k + 2 := ⟨_, rfl⟩
      obtain ⟨p3, hp3⟩ : ∃ p, p = 4 * k + 3 := ⟨_, rfl⟩
      have c0 := ha.cell p0 (by omega)
      have c1 := ha.cell p1 (by omega)
      have c2 := ha.cell p2 (by omega)
      have c3 := ha.cell p3 (by omega)
      rw [(byteAt_eq bs hb _).1, hp0, ← hx0, ← hp0] at c0
      rw [(byteAt_eq bs hb _).1, hp1, ← hx1, ← hp1] at c1
      rw [(byteAt_eq bs hb _).1, hp2, ← hx2, ← hp2] at c2
      rw [(byteAt_eq bs hb _).1, hp3, ← hx3, ← hp3] at c3
      have e0 : IntKind.i64.wrap (4 * (k : Int)) = (p0 : Int) := by rw [IntKind.wrap_i64]; omega
      have e1 : IntKind.i64.wrap ((p0 : Int) + 1) = (p1 : Int) := by rw [IntKind.wrap_i64]; omega
      have e2 : IntKind.i64.wrap ((p0 : Int) + 2) = (p2 : Int) := by rw [IntKind.wrap_i64]; omega
      have e3 : IntKind.i64.wrap ((p0 : Int) + 3) = (p3 : Int) := by rw [IntKind.wrap_i64]; omega
      have b0 : (p0 : Int) < 64 := by omega
      have b1 : (p1 : Int) < 64 := by omega
      have b2 : (p2 : Int) < 64 := by omega
      have b3 : (p3 : Int) < 64 := by omega
      have bk : (k : Int) < 64 := by omega
      have l0 : x0 < 256 := hx0 ▸ (byteAt_eq bs hb _).2
      have l1 : x1 < 256 := hx1 ▸ (byteAt_eq bs hb _).2
      have l2 : x2 < 256 := hx2 ▸ (byteAt_eq bs hb _).2
      have l3 : x3 < 256 := hx3 ▸ (byteAt_eq bs hb _).2
      have fz := hm.free k
      obtain ⟨z, hz⟩ : ∃ z, wr.cell? ⟨w.heap.size + 1 + 1, k, none⟩ = some (.int .u32 z) := ⟨_, hm.cell k (by simp [ints_length, grow_length]; omega)⟩
      obtain ⟨q0, hq0⟩ : ∃ q, q = x0 * 16777216 := ⟨_, rfl⟩
      obtain ⟨q1, hq1⟩ : ∃ q, q = x1 * 65536 := ⟨_, rfl⟩
      obtain ⟨q2, hq2⟩ : ∃ q, q = x2 * 256 := ⟨_, rfl⟩
      obtain ⟨r1, hr1⟩ : ∃ q, q = q0 ||| q1 := ⟨_, rfl⟩
      obtain ⟨r2, hr2⟩ : ∃ q, q = r1 ||| q2 := ⟨_, rfl⟩
      obtain ⟨r3, hr3⟩ : ∃ q, q = r2 ||| x3 := ⟨_, rfl⟩
      have f0 : IntKind.u32.wrap (x0 : Int) = x0 := by rw [IntKind.wrap_u32]; omega
      have f1 : IntKind.u32.wrap (x1 : Int) = x1 := by rw [IntKind.wrap_u32]; omega
      have f2 : IntKind.u32.wrap (x2 : Int) = x2 := by rw [IntKind.wrap_u32]; omega
      have f3 : IntKind.u32.wrap (x3 : Int) = x3 := by rw [IntKind.wrap_u32]; omega
      have f4 : IntKind.u32.wrap ((x0 : Int) * 16777216) = q0 := by rw [IntKind.wrap_u32]; omega
      have f5 : IntKind.u32.wrap ((x1 : Int) * 65536) = q1 := by rw [IntKind.wrap_u32]; omega
      have f6 : IntKind.u32.wrap ((x2 : Int) * 256) = q2 := by rw [IntKind.wrap_u32]; omega
      have m1 : r1 < 4294967296 := hr1 ▸ or_lt' _ _ (by omega) (by omega)
      have m2 : r2 < 4294967296 := hr2 ▸ or_lt' _ _ (by omega) (by omega)
      have o1 : bits .or .u32 (q0 : Int) (q1 : Int) = (r1 : Int) := by rw [u32_or_nat _ _ (by omega) (by omega), hr1]
      have o2 : bits .or .u32 (r1 : Int) (q2 : Int) = (r2 : Int) := by rw [u32_or_nat _ _ m1 (by omega), hr2]
      have o3 : bits .or .u32 (r2 : Int) (x3 : Int) = (r3 : Int) := by rw [u32_or_nat _ _ m2 (by omega), hr3]
      have HX : Hid (word bs k = r3) := by rw [hr3, hr2, hr1, hq0, hq1, hq2, hx0, hx1, hx2, hx3]; rfl
      clear hx0 hx1 hx2 hx3 hp0 hp1 hp2 hp3 hq0 hq1 hq2 hr1 hr2 hr3
      go_wp2
      go_still_tail 31, (by kernel_rfl)
      go_wp2
      go_roundw
      case rel =>
        refine ⟨k + 1, by omega, by go_num, (hbel.setCell (by simp; omega) _).drew, (ha.other (by omega) _ _).drew, (hr.other (by omega) _ _).drew, ?_⟩
        have h1 := hm.set k (r3 : Int)
        rw [show 64 - k = (64 - (k + 1)) + 1 by omega, List.replicate_succ, set_at _ _ _ _ _ (by simp [ints_length, grow_length])] at h1
        have h2 : grow bs (k + 1) = grow bs k ++ [r3] := by simp only [grow, grown, if_pos hlt, HX.out]
        rw [h2, ints_append]
        exact h1.drew
      case measure => simp [intOf]; omega
    · have hm16 : Arr .u32 160 wr (w.heap.size + 1 + 1) (ints (grow bs 16) ++ List.replicate (64 - 16) 0) := by
        have e : k = 16 := by omega
        rw [e] at hm
        exact hm
      go_wp2
      go_loopw [5] (fun i wr => ∃ k : Nat, 16 ≤ k ∧ k ≤ 64 ∧ i = .int .i64 k ∧ Below w.heap.size w wr ∧ Arr .u32 160 wr (w.heap.size + 1) (List.replicate 64 0) ∧
          Arr .u32 160 wr (w.heap.size + 1 + 1) (ints (grow bs k) ++ List.replicate (64 - k) 0)) (fun i _ => 64 - (intOf i).toNat)
      case atStart => exact ⟨16, by omega, by omega, rfl, hbel, hr, hm16⟩
      case round =>
        clear hbel ha hr hm hm16
        rename_i hrel
        obtain ⟨k, hk16, hk, rfl, hbel, hr, hm⟩ := hrel
        by_cases hlt : k < 64
        · obtain ⟨i2, hi2⟩ : ∃ i, i = k - 2 := ⟨_, rfl⟩
          obtain ⟨i7, hi7⟩ : ∃ i, i = k - 7 := ⟨_, rfl⟩
          obtain ⟨i15, hi15⟩ : ∃ i, i = k - 15 := ⟨_, rfl⟩
          obtain ⟨i16, hi16⟩ : ∃ i, i = k - 16 := ⟨_, rfl⟩
          obtain ⟨a2, ha2⟩ : ∃ a, a = (grow bs k).getD (k - 2) 0 := ⟨_, rfl⟩
          obtain ⟨a7, ha7⟩ : ∃ a, a = (grow bs k).getD (k - 7) 0 := ⟨_, rfl⟩
          obtain ⟨a15, ha15⟩ : ∃ a, a = (grow bs k).getD (k - 15) 0 := ⟨_, rfl⟩
          obtain ⟨a16, ha16⟩ : ∃ a, a = (grow bs k).getD (k - 16) 0 := ⟨_, rfl⟩
          have hcell : ∀ i, i < k → wr.cell? ⟨w.heap.size + 1 + 1, i, none⟩ = some (.int .u32 (((grow bs k).getD i 0 : Nat) : Int)) := fun i hi => by
            rw [hm.cell i (by simp [ints_length, grow_length]; omega), ← ints_getD]
            simp [List.getD, List.getElem?_append, ints_length, grow_length, hi]
          have c2 := hcell i2 (by omega)
          have c7 := hcell i7 (by omega)
          have c15 := hcell i15 (by omega)
          have c16 := hcell i16 (by omega)
          rw [hi2, ← ha2, ← hi2] at c2
          rw [hi7, ← ha7, ← hi7] at c7
          rw [hi15, ← ha15, ← hi15] at c15
          rw [hi16, ← ha16, ← hi16] at c16
          have e2 : IntKind.i64.wrap ((k : Int) - 2) = (i2 : Int) := by rw [IntKind.wrap_i64]; omega
          have e7 : IntKind.i64.wrap ((k : Int) - 7) = (i7 : Int) := by rw [IntKind.wrap_i64]; omega
          have e15 : IntKind.i64.wrap ((k : Int) - 15) = (i15 : Int) := by rw [IntKind.wrap_i64]; omega
          have e16 : IntKind.i64.wrap ((k : Int) - 16) = (i16 : Int) := by rw [IntKind.wrap_i64]; omega
          have b2 : (i2 : Int) < 64 := by omega
          have b7 : (i7 : Int) < 64 := by omega
          have b15 : (i15 : Int) < 64 := by omega
          have b16 : (i16 : Int) < 64 := by omega
          have bk : (k : Int) < 64 := by omega
          have l2 : a2 < 4294967296 := ha2 ▸ getD_lt (grow_lt bs hb k) _
          have l15 : a15 < 4294967296 := ha15 ▸ getD_lt (grow_lt bs hb k) _
          have fz := hm.free k
          obtain ⟨z, hz⟩ : ∃ z, wr.cell? ⟨w.heap.size + 1 + 1, k, none⟩ = some (.int .u32 z) := ⟨_, hm.cell k (by simp [ints_length, grow_length]; omega)⟩
          obtain ⟨t1, ht1⟩ : ∃ t, t = s1 a2 := ⟨_, rfl⟩
          obtain ⟨t2, ht2⟩ : ∃ t, t = s0 a15 := ⟨_, rfl⟩
          have d1 : ∀ w, Calls Tryd.prog 99 #[.int .u32 (a2 : Int)] w fun e w' => e = .returned (.int .u32 (t1 : Int)) ∧ w' = w := fun w => ht1 ▸ small1_run a2 l2 w
          have d2 : ∀ w, Calls Tryd.prog 100 #[.int .u32 (a15 : Int)] w fun e w' => e = .returned (.int .u32 (t2 : Int)) ∧ w' = w := fun w => ht2 ▸ small0_run a15 l15 w
          obtain ⟨r1, hr1⟩ : ∃ r, r = add32 t1 a7 := ⟨_, rfl⟩
          obtain ⟨r2, hr2⟩ : ∃ r, r = add32 r1 t2 := ⟨_, rfl⟩
          obtain ⟨r3, hr3⟩ : ∃ r, r = add32 r2 a16 := ⟨_, rfl⟩
          have o1 : IntKind.u32.wrap ((t1 : Int) + (a7 : Int)) = (r1 : Int) := by rw [hr1]; exact wrap_add32 _ _
          have o2 : IntKind.u32.wrap ((r1 : Int) + (t2 : Int)) = (r2 : Int) := by rw [hr2]; exact wrap_add32 _ _
          have o3 : IntKind.u32.wrap ((r2 : Int) + (a16 : Int)) = (r3 : Int) := by rw [hr3]; exact wrap_add32 _ _
          have HX : Hid (grow bs (k + 1) = grow bs k ++ [r3]) := by
            have hn : ¬ k < 16 := by omega
            unfold Hid
            simp only [grow, grown, if_neg hn, nextWord, hr3, hr2, hr1, ht1, ht2, ha2, ha7, ha15, ha16]
          clear hi2 hi7 hi15 hi16 ha2 ha7 ha15 ha16 hcell ht1 ht2 hr1 hr2 hr3
          go_wp2
          refine wp_region_still_tail 23 (by kernel_rfl) (by kernel_rfl) ?_
          simp only [List.take_succ_cons, List.take_zero, List.drop_succ_cons, List.drop_zero]
          repeat (first | still_step | still_call (d1 _) | still_call (d2 _))
          try refine wpStill_nil ?_
          go_wp2
          go_roundw
          case rel =>
            refine ⟨k + 1, by omega, by omega, by go_num, (hbel.setCell (by simp; omega) _).drew, (hr.other (by omega) _ _).drew, ?_⟩
            have h1 := hm.set k (r3 : Int)
            rw [show 64 - k = (64 - (k + 1)) + 1 by omega, List.replicate_succ, set_at _ _ _ _ _ (by simp [ints_length, grow_length])] at h1
            rw [HX.out, ints_append]
            exact h1.drew
          case measure => simp [intOf]; omega
        · have hm64 : Arr .u32 160 wr (w.heap.size + 1 + 1) (ints (grow bs 64)) := by
            have e : k = 64 := by omega
            rw [e] at hm
            simpa using hm
          have hlen : ((ints (grow bs 64)).map (Value.int .u32)).length = 64 := by simp [ints_length, grow_length]
          obtain ⟨us, hus⟩ : ∃ us, us = (ints (grow bs 64)).map (Value.int .u32) := ⟨_, rfl⟩
          have h1 : ∀ v ∈ us, v.oneCell' = true := hus ▸ int_oneCell _ _
          have hlen' : us.length = 64 := hus ▸ hlen
          have hmb : Blk 160 wr (w.heap.size + 1 + 1) us := hus ▸ hm64.blk
          have hrb := hr.blk
          have hu0 : us = (us.drop 0).take 64 := by rw [List.drop_zero, List.take_of_length_le (by omega)]
          have hu1 : us = ((List.replicate 64 (0 : Int)).map (Value.int .u32)).take 0 ++ us ++ ((List.replicate 64 (0 : Int)).map (Value.int .u32)).drop (0 + 64) := by
            rw [List.take_zero, List.nil_append, List.drop_eq_nil_of_le (by simp), List.append_nil]
          have HU : Hid (us = (ints (grow bs 64)).map (Value.int .u32)) := hus
          clear hus hm64 hm hr hlen
          go_wp2_with (first
            | (refine wpList_load_blk (by rfl) (.tmp 3) 160 (by rfl) (w.heap.size + 1 + 1) 0 64 (by rfl) (isAgg_array Tryd.underlying160) (sizeOf_run (by kernel_rfl)) hmb us hu0 hlen' ?_)
            | (refine wpList_store_blk (by rfl) (.tmp 2) (.tmp 68) 160 (by rfl) (w.heap.size + 1) 0 64 (by rfl) us (by rfl) (sizeOf_run (by kernel_rfl)) hrb hlen' (by simp) h1 us hu1 ?_
               intro w2 hb2 hbut hsz))
          go_wp2
          refine bodyPost_ret_blk (by rfl) (by rfl) (by rfl) (isAgg_array Tryd.underlying160) (sizeOf_run (by kernel_rfl)) hb2 hlen' ?_
          exact ⟨by rw [HU.out], hbel.trans (hbut.below (by omega) (by have := hbel.size; omega))⟩
end Go.Proofs.YtjfoidilecognaaDoor
