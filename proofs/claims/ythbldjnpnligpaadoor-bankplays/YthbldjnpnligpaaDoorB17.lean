/-
 Package sha: bytes that are taken block by block, in pieces.
-/
import Derived.Test.YthbldjnpnligpaaDoorB16
import Derived.Test.YthbldjnpnligpaaDoorB03
namespace Go.Proofs.YthbldjnpnligpaaDoor
set_option linter.unusedSimpArgs false
set_option linter.unusedVariables false
set_option maxRecDepth 100000
def firsts8 : S8 := ⟨1779033703, 3144134277, 1013904242, 2773480762, 1359893119, 2600822924, 528734635, 1541459225⟩
theorem firsts8_ok : firsts8.Ok := ⟨by decide, by decide, by decide, by decide, by decide, by decide, by decide, by decide⟩
theorem takenOf_ok (v : S8) (bs : List Int) : (takenOf v bs).Ok := ⟨add32_lt _ _, add32_lt _ _, add32_lt _ _, add32_lt _ _, add32_lt _ _, add32_lt _ _, add32_lt _ _, add32_lt _ _⟩
def folded (v : S8) (xs : List Int) : Nat → S8
 | 0 => v
 | n + 1 => takenOf (folded v xs n) ((xs.drop (64 * n)).take 64)
theorem folded_append (v : S8) (xs ys : List Int) (n : Nat) (h : 64 * n ≤ xs.length) : folded v (xs ++ ys) n = folded v xs n := by
 induction n with
 | zero => rfl
 | succ n ih =>
   have h1 : 64 * n ≤ xs.length := by omega
   simp only [folded, ih h1]
   congr 1
   rw [List.drop_append_of_le_length h1, List.take_append_of_le_length (by simp; omega)]
theorem folded_ok (v : S8) (hv : v.Ok) (xs : List Int) (n : Nat) : (folded v xs n).Ok := by
 cases n with
 | zero => exact hv
 | succ n => exact takenOf_ok _ _
def hashed (xs : List Int) : S8 := folded firsts8 xs (xs.length / 64)
theorem hashed_ok (xs : List Int) : (hashed xs).Ok := folded_ok _ firsts8_ok _ _
structure St (v : S8) (tail xs : List Int) : Prop where
 len : tail.length = 64
 rng : ∀ x ∈ tail, 0 ≤ x ∧ x ≤ 255
 cut : tail.take (xs.length % 64) = xs.drop (xs.length / 64 * 64)
 num : v = hashed xs
def laid (tail : List Int) (r : Nat) (ys : List Int) : List Int := tail.take r ++ (ys ++ tail.drop (r + ys.length))
theorem laid_length (tail : List Int) (r : Nat) (ys : List Int) (h : r + ys.length ≤ tail.length) : (laid tail r ys).length = tail.length := by
 unfold laid; simp; omega
theorem laid_rng (tail : List Int) (r : Nat) (ys : List Int) (ht : ∀ x ∈ tail, 0 ≤ x ∧ x ≤ 255) (hy : ∀ x ∈ ys, 0 ≤ x ∧ x ≤ 255) : ∀ x ∈ laid tail r ys, 0 ≤ x ∧ x ≤ 255 := by
 intro x hx
 unfold laid at hx
 simp only [List.mem_append] at hx
 rcases hx with hx | hx | hx
 · exact ht x (List.mem_of_mem_take hx)
 · exact hy x hx
 · exact ht x (List.mem_of_mem_drop hx)
theorem St.part {v : S8} {tail xs ys : List Int} (h : St v tail xs) (hy : ∀ x ∈ ys, 0 ≤ x ∧ x ≤ 255) (hf : xs.length % 64 + ys.length < 64) : St v (laid tail (xs.length % 64) ys) (xs ++ ys) := by
 have hq : (xs ++ ys).length / 64 = xs.length / 64 := by simp; omega
 have hr : (xs ++ ys).length % 64 = xs.length % 64 + ys.length := by simp; omega
 have hl := h.len
 refine ⟨by rw [laid_length _ _ _ (by omega), h.len], laid_rng _ _ _ h.rng hy, ?_, ?_⟩
 · rw [hq, hr, List.drop_append_of_le_length (by omega), ← h.cut]
   unfold laid
   rw [← List.append_assoc, List.take_append_of_le_length (by simp; omega), List.take_of_length_le (by simp; omega)]
 · rw [h.num]
   unfold hashed
   rw [hq, folded_append _ _ _ _ (by omega)]
theorem St.full {v : S8} {tail xs ys : List Int} (h : St v tail xs) (hy : ∀ x ∈ ys, 0 ≤ x ∧ x ≤ 255) (hf : xs.length % 64 + ys.length = 64) : St (takenOf v (laid tail (xs.length % 64) ys)) (laid tail (xs.length % 64) ys) (xs ++ ys) := by
 have hq : (xs ++ ys).length / 64 = xs.length / 64 + 1 := by simp; omega
 have hr : (xs ++ ys).length % 64 = 0 := by simp; omega
 have hl := h.len
 refine ⟨by rw [laid_length _ _ _ (by omega), h.len], laid_rng _ _ _ h.rng hy, ?_, ?_⟩
 · rw [hq, hr, List.take_zero, List.drop_eq_nil_of_le (by simp; omega)]
 · have hb : laid tail (xs.length % 64) ys = ((xs ++ ys).drop (64 * (xs.length / 64))).take 64 := by
    rw [List.drop_append_of_le_length (by omega), Nat.mul_comm, ← h.cut, List.take_of_length_le (by simp; omega)]
    unfold laid
    rw [List.drop_eq_nil_of_le (by omega), List.append_nil]
   unfold hashed
   rw [hq]
   simp only [folded]
   rw [folded_append _ _ _ _ (by omega), h.num, ← hb]
   rfl
def padOf (n : Nat) : List Int :=
 128 :: (List.replicate ((119 - n % 64) % 64) 0 ++ (List.range 8).map fun i => (((n * 8 / 2 ^ (8 * (7 - i)) % 256 : Nat)) : Int))
theorem padOf_length (n : Nat) : (padOf n).length = (119 - n % 64) % 64 + 9 := by simp [padOf]
theorem padOf_rng (n : Nat) : ∀ x ∈ padOf n, 0 ≤ x ∧ x ≤ 255 := by
 intro x hx
 simp only [padOf, List.mem_cons, List.mem_append, List.mem_replicate, List.mem_map] at hx
 rcases hx with rfl | ⟨_, rfl⟩ | ⟨i, _, rfl⟩
 · decide
 · decide
 · have := Nat.mod_lt (n * 8 / 2 ^ (8 * (7 - i))) (show 0 < 256 by decide)
   omega
def bytes4 (n : Nat) : List Int := [((n / 16777216 : Nat) : Int), ((n / 65536 % 256 : Nat) : Int), ((n / 256 % 256 : Nat) : Int), ((n % 256 : Nat) : Int)]
def S8.bytes (v : S8) : List Int := v.list.flatMap bytes4
def shaOf (xs : List Int) : List Int := (hashed (xs ++ padOf xs.length)).bytes
theorem shaOf_length (xs : List Int) : (shaOf xs).length = 32 := rfl
end Go.Proofs.YthbldjnpnligpaaDoor

/-
 The hash's bytes are bytes.
-/

namespace Go.Proofs.YthbldjnpnligpaaDoor
set_option linter.unusedSimpArgs false
set_option linter.unusedVariables false
set_option maxRecDepth 100000
open Go.RowKit
theorem bytes4_rng (n : Nat) (hn : n < 4294967296) : ∀ x ∈ bytes4 n, 0 ≤ x ∧ x ≤ 255 := by
 intro x hx
 simp only [bytes4, List.mem_cons, List.not_mem_nil, or_false] at hx
 rcases hx with rfl | rfl | rfl | rfl <;> omega
theorem shaOf_rng (xs : List Int) : ∀ x ∈ shaOf xs, 0 ≤ x ∧ x ≤ 255 := by
 intro x hx
 unfold shaOf S8.bytes at hx
 obtain ⟨n, hn, hxn⟩ := List.mem_flatMap.1 hx
 refine bytes4_rng n ?_ x hxn
 have hok := hashed_ok (xs ++ padOf xs.length)
 simp only [S8.list, List.mem_cons, List.not_mem_nil, or_false] at hn
 rcases hn with rfl | rfl | rfl | rfl | rfl | rfl | rfl | rfl
 · exact hok.a
 · exact hok.b
 · exact hok.c
 · exact hok.d
 · exact hok.e
 · exact hok.f
 · exact hok.g
 · exact hok.h
end Go.Proofs.YthbldjnpnligpaaDoor

/-
 The document's answer for package sha: turned numbers, the tables.
-/

namespace Go.Proofs.YthbldjnpnligpaaDoor
set_option linter.unusedSimpArgs false
set_option linter.unusedVariables false
set_option maxRecDepth 100000
open Go.RowKit
theorem turn_run (x : Nat) (m : Int) (hx : x < 4294967296) (h1 : 1 ≤ m) (h2 : m ≤ 31) (w : World) :
 Calls Tryd.prog 167 #[.int .u32 (x : Int), .int .u64 m] w fun e w' => e = .returned (.int .u32 (rotr x m.toNat : Nat)) ∧ w' = w := by
 obtain ⟨n, rfl⟩ : ∃ n : Nat, m = n := ⟨m.toNat, by omega⟩
 have ho : bits BinOp.or IntKind.u32 ((x : Int) / 2 ^ n) ((x : Int) * 2 ^ (32 - n) % 4294967296) = ((rotr x n : Nat) : Int) := by
  have e1 : (x : Int) * 2 ^ (32 - n) % 4294967296 = ((x * 2 ^ (32 - n) % 4294967296 : Nat) : Int) := by rw [Int.natCast_emod, Int.natCast_mul, Int.natCast_pow]; rfl
  have e2 : (x : Int) / 2 ^ n = ((x / 2 ^ n : Nat) : Int) := by rw [Int.natCast_ediv, Int.natCast_pow]; rfl
  rw [e1, e2, u32_or_nat _ _ (div_lt' _ _ hx) (Nat.mod_lt _ (Nat.zero_lt_of_lt hx)), Nat.or_comm]
  rfl
 go_enter Tryd.func167, Tryd.ntmps167
 go_wp2
 go_ret
 exact ⟨rfl, rfl⟩
theorem start_run (w : World) : Calls Tryd.prog 149 #[] w fun e w' => e = .returned (.agg firsts8.val.toArray) ∧ Below w.heap.size w w' := by
 go_enter Tryd.func149, Tryd.ntmps149
 go_wp2_with (refine wpList_store_blk (by rfl) (.tmp 0) (.tmp 1) 217 (by rfl) w.heap.size 0 8 (by rfl) firsts8.val (by rfl) (sizeOf_run (by kernel_rfl)) (e := 217) (vs := (List.replicate 8 (0 : Int)).map (Value.int .u32)) (Blk.newAt rfl (by rfl)) rfl (by decide) (int_oneCell _ _) firsts8.val (by rfl) ?_
              intro w6 hb6 hbut6 hsz6)
 refine bodyPost_ret_blk (by rfl) (by rfl) (by rfl) (isAgg_array Tryd.underlying217) (sizeOf_run (by kernel_rfl)) hb6 (by rfl) ?_
 exact ⟨rfl, ((Below.refl _ _).alloc (Nat.le_refl _) _).trans (hbut6.below (Nat.le_refl _) (by simp))⟩
theorem steps_run (w : World) : Calls Tryd.prog 150 #[] w fun e w' => e = .returned (.slice (some ⟨w.heap.size, 0, none⟩) 64 64) ∧ Tab .u32 w' w.heap.size (ints stepNums) ∧ Below w.heap.size w w' := by
 go_enter Tryd.func150, Tryd.ntmps150
 go_wp2
 go_ret
 refine ⟨rfl, fun i hi => ?_, (Below.refl _ _).alloc (Nat.le_refl _) _⟩
 exact Arr.cell (Arr.new (K := .u32) (e := 34) (w := w) (cur := ints stepNums) rfl) i hi
end Go.Proofs.YthbldjnpnligpaaDoor
