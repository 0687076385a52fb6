/-
 Package sha: turned numbers.
-/
import Derived.Test.YthbldjnpnligpaaDoorB01
import Derived.Test.YthbldjnpnligpaaDoorRows
import Derived.Test.YthbldjnpnligpaaDoorB03
import Derived.Laws.BitsAllLaws
import Derived.Laws.ShiftsVarLaws
import Derived.Deep.QuietTactic
import Derived.BigQuiet
namespace Go.Proofs.YthbldjnpnligpaaDoor
set_option linter.unusedSimpArgs false
set_option linter.unusedVariables false
set_option maxRecDepth 100000
open Go.RowKit
def rotr (x n : Nat) : Nat := (x * 2 ^ (32 - n) % 4294967296) ||| (x / 2 ^ n)
theorem rotr_lt (x n : Nat) (hx : x < 4294967296) : rotr x n < 4294967296 := by
 unfold rotr
 apply Nat.or_lt_two_pow (n := 32)
 · exact Nat.mod_lt _ (by decide)
 · exact Nat.lt_of_le_of_lt (Nat.div_le_self _ _) hx
theorem xor_lt (a b : Nat) (ha : a < 4294967296) (hb : b < 4294967296) : a ^^^ b < 4294967296 := Nat.xor_lt_two_pow (n := 32) ha hb
theorem and_lt' (a b : Nat) (ha : a < 4294967296) : a &&& b < 4294967296 := Nat.lt_of_le_of_lt Nat.and_le_left ha
theorem div_lt' (a b : Nat) (ha : a < 4294967296) : a / b < 4294967296 := Nat.lt_of_le_of_lt (Nat.div_le_self _ _) ha
def s0 (x : Nat) : Nat := (rotr x 7 ^^^ rotr x 18) ^^^ x / 8
def s1 (x : Nat) : Nat := (rotr x 17 ^^^ rotr x 19) ^^^ x / 1024
def g0 (x : Nat) : Nat := (rotr x 2 ^^^ rotr x 13) ^^^ rotr x 22
def g1 (x : Nat) : Nat := (rotr x 6 ^^^ rotr x 11) ^^^ rotr x 25
theorem rotateLeft_run (x n : Nat) (hx : x < 4294967296) (h1 : 1 ≤ n) (h2 : n ≤ 31) (w : World) :
 Calls Tryd.prog 177 #[.int .u32 (x : Int), .int .i64 (-(n : Int))] w fun e w' => e = .returned (.int .u32 (rotr x n : Nat)) ∧ w' = w := by
 have hc : IntKind.u64.wrap (-(n : Int)) = 18446744073709551616 - n := by
  simp [IntKind.wrap, IntKind.bits, IntKind.signed]; omega
 have hs : bits .and .u64 (18446744073709551616 - (n : Int)) 31 = ((32 - n : Nat) : Int) := by
  have h := u64_and (18446744073709551616 - (n : Int)) 31 (by omega) (by omega) (by decide) (by decide)
  rw [h]
  have e : (18446744073709551616 - (n : Int)).toNat = 18446744073709551616 - n := by omega
  rw [e]
  have e2 : (31 : Int).toNat = 2 ^ 5 - 1 := rfl
  rw [e2, Nat.and_two_pow_sub_one_eq_mod]
  congr 1
  omega
 have ho : bits BinOp.or IntKind.u32 ((x : Int) * 2 ^ (32 - n) % 4294967296) ((x : Int) / 2 ^ (32 - (32 - n))) = ((rotr x n : Nat) : Int) := by
  have e1 : (x : Int) * 2 ^ (32 - n) % 4294967296 = ((x * 2 ^ (32 - n) % 4294967296 : Nat) : Int) := by rw [Int.natCast_emod, Int.natCast_mul, Int.natCast_pow]; rfl
  have e2 : (x : Int) / 2 ^ (32 - (32 - n)) = ((x / 2 ^ n : Nat) : Int) := by
   rw [show 32 - (32 - n) = n by omega, Int.natCast_ediv, Int.natCast_pow]; rfl
  rw [e1, e2, u32_or_nat _ _ (Nat.mod_lt _ (Nat.zero_lt_of_lt hx)) (div_lt' _ _ hx)]
  rfl
 go_enter Tryd.func177, Tryd.ntmps177
 go_wp2
 go_ret
 exact ⟨rfl, rfl⟩
theorem rotated_run (x n : Nat) (hx : x < 4294967296) (h1 : 1 ≤ n) (h2 : n ≤ 31) (w : World) :
 Calls Tryd.prog 176 #[.int .u32 (x : Int), .int .i64 (n : Int)] w fun e w' => e = .returned (.int .u32 (rotr x n : Nat)) ∧ w' = w := by
 go_enter Tryd.func176, Tryd.ntmps176
 go_wp2_with (go_at_call 177; go_must (refine (rotateLeft_run x n hx h1 h2 _).mono ?_); rintro e w' ⟨rfl, rfl⟩)
 go_ret
 exact ⟨rfl, rfl⟩
theorem rotated_by (x : Nat) (m : Int) (hx : x < 4294967296) (h1 : 1 ≤ m) (h2 : m ≤ 31) (w : World) :
 Calls Tryd.prog 176 #[.int .u32 (x : Int), .int .i64 m] w fun e w' => e = .returned (.int .u32 (rotr x m.toNat : Nat)) ∧ w' = w := by
 have h := rotated_run x m.toNat hx (by omega) (by omega) w
 rw [Int.toNat_of_nonneg (by omega)] at h
 exact h
theorem small0_run (x : Nat) (hx : x < 4294967296) (w : World) :
 Calls Tryd.prog 175 #[.int .u32 (x : Int)] w fun e w' => e = .returned (.int .u32 (s0 x : Nat)) ∧ w' = w := by
 obtain ⟨y, hy⟩ : ∃ y, y = x / 8 := ⟨_, rfl⟩
 have hyl : y < 4294967296 := hy ▸ div_lt' _ _ hx
 have e1 := u32_xor_nat (rotr x 7) (rotr x 18) (rotr_lt _ _ hx) (rotr_lt _ _ hx)
 have e2 := u32_xor_nat ((rotr x 7) ^^^ (rotr x 18)) y (xor_lt _ _ (rotr_lt _ _ hx) (rotr_lt _ _ hx)) hyl
 have e3 : (x : Int) / 8 = (y : Int) := by omega
 have HY : Hid (y = x / 8) := hy
 clear hy
 go_enter Tryd.func175, Tryd.ntmps175
 go_wp2_with (go_at_call 176; go_must (refine (rotated_by x _ hx (by decide) (by decide) _).mono ?_); rintro e w' ⟨rfl, rfl⟩)
 go_ret
 exact ⟨by rw [HY.out]; rfl, rfl⟩
theorem small1_run (x : Nat) (hx : x < 4294967296) (w : World) :
 Calls Tryd.prog 174 #[.int .u32 (x : Int)] w fun e w' => e = .returned (.int .u32 (s1 x : Nat)) ∧ w' = w := by
 obtain ⟨y, hy⟩ : ∃ y, y = x / 1024 := ⟨_, rfl⟩
 have hyl : y < 4294967296 := hy ▸ div_lt' _ _ hx
 have e1 := u32_xor_nat (rotr x 17) (rotr x 19) (rotr_lt _ _ hx) (rotr_lt _ _ hx)
 have e2 := u32_xor_nat ((rotr x 17) ^^^ (rotr x 19)) y (xor_lt _ _ (rotr_lt _ _ hx) (rotr_lt _ _ hx)) hyl
 have e3 : (x : Int) / 1024 = (y : Int) := by omega
 have HY : Hid (y = x / 1024) := hy
 clear hy
 go_enter Tryd.func174, Tryd.ntmps174
 go_wp2_with (go_at_call 176; go_must (refine (rotated_by x _ hx (by decide) (by decide) _).mono ?_); rintro e w' ⟨rfl, rfl⟩)
 go_ret
 exact ⟨by rw [HY.out]; rfl, rfl⟩
theorem great0_run (x : Nat) (hx : x < 4294967296) (w : World) :
 Calls Tryd.prog 173 #[.int .u32 (x : Int)] w fun e w' => e = .returned (.int .u32 (g0 x : Nat)) ∧ w' = w := by
 have e1 := u32_xor_nat (rotr x 2) (rotr x 13) (rotr_lt _ _ hx) (rotr_lt _ _ hx)
 have e2 := u32_xor_nat ((rotr x 2) ^^^ (rotr x 13)) (rotr x 22) (xor_lt _ _ (rotr_lt _ _ hx) (rotr_lt _ _ hx)) (rotr_lt _ _ hx)
 go_enter Tryd.func173, Tryd.ntmps173
 go_wp2_with (go_at_call 176; go_must (refine (rotated_by x _ hx (by decide) (by decide) _).mono ?_); rintro e w' ⟨rfl, rfl⟩)
 go_ret
 exact ⟨rfl, rfl⟩
theorem great1_run (x : Nat) (hx : x < 4294967296) (w : World) :
 Calls Tryd.prog 172 #[.int .u32 (x : Int)] w fun e w' => e = .returned (.int .u32 (g1 x : Nat)) ∧ w' = w := by
 have e1 := u32_xor_nat (rotr x 6) (rotr x 11) (rotr_lt _ _ hx) (rotr_lt _ _ hx)
 have e2 := u32_xor_nat ((rotr x 6) ^^^ (rotr x 11)) (rotr x 25) (xor_lt _ _ (rotr_lt _ _ hx) (rotr_lt _ _ hx)) (rotr_lt _ _ hx)
 go_enter Tryd.func172, Tryd.ntmps172
 go_wp2_with (go_at_call 176; go_must (refine (rotated_by x _ hx (by decide) (by decide) _).mono ?_); rintro e w' ⟨rfl, rfl⟩)
 go_ret
 exact ⟨rfl, rfl⟩
end Go.Proofs.YthbldjnpnligpaaDoor

/-
 Package sha: the words of a block.
-/

namespace Go.Proofs.YthbldjnpnligpaaDoor
set_option linter.unusedSimpArgs false
set_option linter.unusedVariables false
set_option maxRecDepth 100000
open Go.RowKit
def four (x0 x1 x2 x3 : Nat) : Nat := ((x0 * 16777216 ||| x1 * 65536) ||| x2 * 256) ||| x3
def byteAt (bs : List Int) (i : Nat) : Nat := (bs.getD i 0).toNat
def word (bs : List Int) (t : Nat) : Nat := four (byteAt bs (4 * t)) (byteAt bs (4 * t + 1)) (byteAt bs (4 * t + 2)) (byteAt bs (4 * t + 3))
theorem byteAt_eq (bs : List Int) (hb : ∀ x ∈ bs, 0 ≤ x ∧ x ≤ 255) (i : Nat) : bs.getD i 0 = (byteAt bs i : Int) ∧ byteAt bs i < 256 := by
 unfold byteAt
 rcases Nat.lt_or_ge i bs.length with h | h
 · have := hb (bs[i]) (List.getElem_mem h)
   simp [List.getD, h]; omega
 · simp [List.getD, List.getElem?_eq_none h]
theorem or_lt' (a b : Nat) (ha : a < 4294967296) (hb : b < 4294967296) : a ||| b < 4294967296 := Nat.or_lt_two_pow (n := 32) ha hb
def add32 (a b : Nat) : Nat := (a + b) % 4294967296
theorem add32_lt (a b : Nat) : add32 a b < 4294967296 := Nat.mod_lt _ (by decide)
theorem wrap_add32 (a b : Nat) : IntKind.u32.wrap ((a : Int) + (b : Int)) = (add32 a b : Nat) := by rw [IntKind.wrap_u32]; unfold add32; omega
def nextWord (ws : List Nat) (n : Nat) : Nat := add32 (add32 (add32 (s1 (ws.getD (n - 2) 0)) (ws.getD (n - 7) 0)) (s0 (ws.getD (n - 15) 0))) (ws.getD (n - 16) 0)
def grown (bs : List Int) (l : List Nat) (n : Nat) : List Nat := l ++ [if n < 16 then word bs n else nextWord l n]
def grow (bs : List Int) : Nat → List Nat
 | 0 => []
 | n + 1 => grown bs (grow bs n) n
def ints (l : List Nat) : List Int := l.map fun (n : Nat) => (n : Int)
theorem ints_length (l : List Nat) : (ints l).length = l.length := by simp [ints]
theorem ints_append (l m : List Nat) : ints (l ++ m) = ints l ++ ints m := by simp [ints]
theorem ints_getD (l : List Nat) (i : Nat) : (ints l).getD i 0 = ((l.getD i 0 : Nat) : Int) := by
 unfold ints
 rcases Nat.lt_or_ge i l.length with h | h
 · simp [List.getD, h]
 · simp [List.getD, List.getElem?_eq_none h]
theorem grow_length (bs : List Int) (n : Nat) : (grow bs n).length = n := by
 induction n with
 | zero => rfl
 | succ n ih => simp [grow, grown, ih]
theorem word_lt (bs : List Int) (hb : ∀ x ∈ bs, 0 ≤ x ∧ x ≤ 255) (t : Nat) : word bs t < 4294967296 := by
 have h0 := (byteAt_eq bs hb (4 * t)).2
 have h1 := (byteAt_eq bs hb (4 * t + 1)).2
 have h2 := (byteAt_eq bs hb (4 * t + 2)).2
 have h3 := (byteAt_eq bs hb (4 * t + 3)).2
 unfold word four
 exact or_lt' _ _ (or_lt' _ _ (or_lt' _ _ (by omega) (by omega)) (by omega)) (by omega)
theorem getD_lt {l : List Nat} (h : ∀ x ∈ l, x < 4294967296) (i : Nat) : l.getD i 0 < 4294967296 := by
 rcases Nat.lt_or_ge i l.length with h1 | h1
 · simpa [List.getD, h1] using h _ (List.getElem_mem h1)
 · simp [List.getD, List.getElem?_eq_none h1]
theorem grow_lt (bs : List Int) (hb : ∀ x ∈ bs, 0 ≤ x ∧ x ≤ 255) (n : Nat) : ∀ x ∈ grow bs n, x < 4294967296 := by
 induction n with
 | zero => simp [grow]
 | succ n ih =>
   intro x hx
   simp only [grow, grown, List.mem_append, List.mem_singleton] at hx
   rcases hx with hx | hx
   · exact ih x hx
   · subst hx
     split
     · exact word_lt bs hb n
     · exact add32_lt _ _
set_option maxRecDepth 100000 in
set_option maxHeartbeats 2000000 in
theorem words_run (bs : List Int) (hl : bs.length = 64) (hb : ∀ x ∈ bs, 0 ≤ x ∧ x ≤ 255) (w : World) :
 Calls Tryd.prog 171 #[.agg (bs.map (Value.int .u8)).toArray] w fun e w' => e = .returned (.agg ((ints (grow bs 64)).map (Value.int .u32)).toArray) ∧ Below w.heap.size w w' := by
 obtain ⟨B, hB⟩ : ∃ B, B = w.heap.size := ⟨_, rfl⟩
 go_enter Tryd.func171, Tryd.ntmps171
 go_wp2
 go_loopw [6] (fun i wr => ∃ k : Nat, k ≤ 16 ∧ i = .int .i64 k ∧ Below w.heap.size w wr ∧ Arr .u8 232 wr w.heap.size bs ∧ Arr .u32 238 wr (w.heap.size + 1) (List.replicate 64 0) ∧
  Arr .u32 238 wr (w.heap.size + 1 + 1) (ints (grow bs k) ++ List.replicate (64 - k) 0)) (fun i _ => 16 - (intOf i).toNat)
 case atStart =>
  refine ⟨0, by omega, rfl, (((Below.refl _ _).alloc (Nat.le_refl _) _).alloc (by simp) _).alloc (by simp; omega) _, ((Arr.new rfl).alloc _).alloc _, ?_, ?_⟩
  · refine Arr.alloc (Arr.newAt (cur := List.replicate 64 0) ?_ ?_) _
    · simp
    · rfl
  · refine Arr.newAt ?_ ?_
    · simp
    · rfl
 case round =>
  rename_i hrel
  obtain ⟨k, hk, rfl, hbel, ha, hr, hm⟩ := hrel
  by_cases hlt : k < 16
  · obtain ⟨x0, hx0⟩ : ∃ x, x = byteAt bs (4 * k) := ⟨_, rfl⟩
    obtain ⟨x1, hx1⟩ : ∃ x, x = byteAt bs (4 * k + 1) := ⟨_, rfl⟩
    obtain ⟨x2, hx2⟩ : ∃ x, x = byteAt bs (4 * k + 2) := ⟨_, rfl⟩
    obtain ⟨x3, hx3⟩ : ∃ x, x = byteAt bs (4 * k + 3) := ⟨_, rfl⟩
    obtain ⟨p0, hp0⟩ : ∃ p, p = 4 * k := ⟨_, rfl⟩
    obtain ⟨p1, hp1⟩ : ∃ p, p = 4 * k + 1 := ⟨_, rfl⟩
    obtain ⟨p2, hp2⟩ : ∃ p, p = 4 * k + 2 := ⟨_, rfl⟩
    obtain ⟨p3, hp3⟩ : ∃ p, p = 4 * k + 3 := ⟨_, rfl⟩
    have c0 := ha.cell p0 (by omega)
    have c1 := ha.cell p1 (by omega)
    have c2 := ha.cell p2 (by omega)
    have c3 := ha.cell p3 (by omega)
    rw [(byteAt_eq bs hb _).1, hp0, ← hx0, ← hp0] at c0
    rw [(byteAt_eq bs hb _).1, hp1, ← hx1, ← hp1] at c1
    rw [(byteAt_eq bs hb _).1, hp2, ← hx2, ← hp2] at c2
    rw [(byteAt_eq bs hb _).1, hp3, ← hx3, ← hp3] at c3
    have e0 : IntKind.i64.wrap (4 * (k : Int)) = (p0 : Int) := by rw [IntKind.wrap_i64]; omega
    have e1 : IntKind.i64.wrap ((p0 : Int) + 1) = (p1 : Int) := by rw [IntKind.wrap_i64]; omega
    have e2 : IntKind.i64.wrap ((p0 : Int) + 2) = (p2 : Int) := by rw [IntKind.wrap_i64]; omega
    have e3 : IntKind.i64.wrap ((p0 : Int) + 3) = (p3 : Int) := by rw [IntKind.wrap_i64]; omega
    have b0 : (p0 : Int) < 64 := by omega
    have b1 : (p1 : Int) < 64 := by omega
    have b2 : (p2 : Int) < 64 := by omega
    have b3 : (p3 : Int) < 64 := by omega
    have bk : (k : Int) < 64 := by omega
    have l0 : x0 < 256 := hx0 ▸ (byteAt_eq bs hb _).2
    have l1 : x1 < 256 := hx1 ▸ (byteAt_eq bs hb _).2
    have l2 : x2 < 256 := hx2 ▸ (byteAt_eq bs hb _).2
    have l3 : x3 < 256 := hx3 ▸ (byteAt_eq bs hb _).2
    have fz := hm.free k
    obtain ⟨z, hz⟩ : ∃ z, wr.cell? ⟨w.heap.size + 1 + 1, k, none⟩ = some (.int .u32 z) := ⟨_, hm.cell k (by simp [ints_length, grow_length]; omega)⟩
    obtain ⟨q0, hq0⟩ : ∃ q, q = x0 * 16777216 := ⟨_, rfl⟩
    obtain ⟨q1, hq1⟩ : ∃ q, q = x1 * 65536 := ⟨_, rfl⟩
    obtain ⟨q2, hq2⟩ : ∃ q, q = x2 * 256 := ⟨_, rfl⟩
    obtain ⟨r1, hr1⟩ : ∃ q, q = q0 ||| q1 := ⟨_, rfl⟩
    obtain ⟨r2, hr2⟩ : ∃ q, q = r1 ||| q2 := ⟨_, rfl⟩
    obtain ⟨r3, hr3⟩ : ∃ q, q = r2 ||| x3 := ⟨_, rfl⟩
    have f0 : IntKind.u32.wrap (x0 : Int) = x0 := by rw [IntKind.wrap_u32]; omega
    have f1 : IntKind.u32.wrap (x1 : Int) = x1 := by rw [IntKind.wrap_u32]; omega
    have f2 : IntKind.u32.wrap (x2 : Int) = x2 := by rw [IntKind.wrap_u32]; omega
    have f3 : IntKind.u32.wrap (x3 : Int) = x3 := by rw [IntKind.wrap_u32]; omega
    have f4 : IntKind.u32.wrap ((x0 : Int) * 16777216) = q0 := by rw [IntKind.wrap_u32]; omega
    have f5 : IntKind.u32.wrap ((x1 : Int) * 65536) = q1 := by rw [IntKind.wrap_u32]; omega
    have f6 : IntKind.u32.wrap ((x2 : Int) * 256) = q2 := by rw [IntKind.wrap_u32]; omega
    have m1 : r1 < 4294967296 := hr1 ▸ or_lt' _ _ (by omega) (by omega)
    have m2 : r2 < 4294967296 := hr2 ▸ or_lt' _ _ (by omega) (by omega)
    have o1 : bits .or .u32 (q0 : Int) (q1 : Int) = (r1 : Int) := by rw [u32_or_nat _ _ (by omega) (by omega), hr1]
    have o2 : bits .or .u32 (r1 : Int) (q2 : Int) = (r2 : Int) := by rw [u32_or_nat _ _ m1 (by omega), hr2]
    have o3 : bits .or .u32 (r2 : Int) (x3 : Int) = (r3 : Int) := by rw [u32_or_nat _ _ m2 (by omega), hr3]
    have HX : Hid (word bs k = r3) := by rw [hr3, hr2, hr1, hq0, hq1, hq2, hx0, hx1, hx2, hx3]; rfl
    clear hx0 hx1 hx2 hx3 hp0 hp1 hp2 hp3 hq0 hq1 hq2 hr1 hr2 hr3
    go_wp2
    go_still_tail 31, (by kernel_rfl)
    go_wp2
    go_roundw
    case rel =>
        refine ⟨k + 1, by omega, by go_num, (hbel.setCell (by simp; omega) _).drew, (ha.other (by omega) _ _).drew, (hr.other (by omega) _ _).drew, ?_⟩
        have h1 := hm.set k (r3 : Int)
        rw [show 64 - k = (64 - (k + 1)) + 1 by omega, List.replicate_succ, set_at _ _ _ _ _ (by simp [ints_length, grow_length])] at h1
        have h2 : grow bs (k + 1) = grow bs k ++ [r3] := by simp only [grow, grown, if_pos hlt, HX.out]
        rw [h2, ints_append]
        exact h1.drew
    case measure => simp [intOf]; omega
  · have hm16 : Arr .u32 238 wr (w.heap.size + 1 + 1) (ints (grow bs 16) ++ List.replicate (64 - 16) 0) := by
        have e : k = 16 := by omega
        rw [e] at hm
        exact hm
    go_wp2
    go_loopw [5] (fun i wr => ∃ k : Nat, 16 ≤ k ∧ k ≤ 64 ∧ i = .int .i64 k ∧ Below w.heap.size w wr ∧ Arr .u32 238 wr (w.heap.size + 1) (List.replicate 64 0) ∧
     Arr .u32 238 wr (w.heap.size + 1 + 1) (ints (grow bs k) ++ List.replicate (64 - k) 0)) (fun i _ => 64 - (intOf i).toNat)
    case atStart => exact ⟨16, by omega, by omega, rfl, hbel, hr, hm16⟩
    case round =>
        clear hbel ha hr hm hm16
        rename_i hrel
        obtain ⟨k, hk16, hk, rfl, hbel, hr, hm⟩ := hrel
        by_cases hlt : k < 64
        · obtain ⟨i2, hi2⟩ : ∃ i, i = k - 2 := ⟨_, rfl⟩
          obtain ⟨i7, hi7⟩ : ∃ i, i = k - 7 := ⟨_, rfl⟩
          obtain ⟨i15, hi15⟩ : ∃ i, i = k - 15 := ⟨_, rfl⟩
          obtain ⟨i16, hi16⟩ : ∃ i, i = k - 16 := ⟨_, rfl⟩
          obtain ⟨a2, ha2⟩ : ∃ a, a = (grow bs k).getD (k - 2) 0 := ⟨_, rfl⟩
          obtain ⟨a7, ha7⟩ : ∃ a, a = (grow bs k).getD (k - 7) 0 := ⟨_, rfl⟩
          obtain ⟨a15, ha15⟩ : ∃ a, a = (grow bs k).getD (k - 15) 0 := ⟨_, rfl⟩
          obtain ⟨a16, ha16⟩ : ∃ a, a = (grow bs k).getD (k - 16) 0 := ⟨_, rfl⟩
          have hcell : ∀ i, i < k → wr.cell? ⟨w.heap.size + 1 + 1, i, none⟩ = some (.int .u32 (((grow bs k).getD i 0 : Nat) : Int)) := fun i hi => by
           rw [hm.cell i (by simp [ints_length, grow_length]; omega), ← ints_getD]
           simp [List.getD, List.getElem?_append, ints_length, grow_length, hi]
          have c2 := hcell i2 (by omega)
          have c7 := hcell i7 (by omega)
          have c15 := hcell i15 (by omega)
          have c16 := hcell i16 (by omega)
          rw [hi2, ← ha2, ← hi2] at c2
          rw [hi7, ← ha7, ← hi7] at c7
          rw [hi15, ← ha15, ← hi15] at c15
          rw [hi16, ← ha16, ← hi16] at c16
          have e2 : IntKind.i64.wrap ((k : Int) - 2) = (i2 : Int) := by rw [IntKind.wrap_i64]; omega
          have e7 : IntKind.i64.wrap ((k : Int) - 7) = (i7 : Int) := by rw [IntKind.wrap_i64]; omega
          have e15 : IntKind.i64.wrap ((k : Int) - 15) = (i15 : Int) := by rw [IntKind.wrap_i64]; omega
          have e16 : IntKind.i64.wrap ((k : Int) - 16) = (i16 : Int) := by rw [IntKind.wrap_i64]; omega
          have b2 : (i2 : Int) < 64 := by omega
          have b7 : (i7 : Int) < 64 := by omega
          have b15 : (i15 : Int) < 64 := by omega
          have b16 : (i16 : Int) < 64 := by omega
          have bk : (k : Int) < 64 := by omega
          have l2 : a2 < 4294967296 := ha2 ▸ getD_lt (grow_lt bs hb k) _
          have l15 : a15 < 4294967296 := ha15 ▸ getD_lt (grow_lt bs hb k) _
          have fz := hm.free k
          obtain ⟨z, hz⟩ : ∃ z, wr.cell? ⟨w.heap.size + 1 + 1, k, none⟩ = some (.int .u32 z) := ⟨_, hm.cell k (by simp [ints_length, grow_length]; omega)⟩
          obtain ⟨t1, ht1⟩ : ∃ t, t = s1 a2 := ⟨_, rfl⟩
          obtain ⟨t2, ht2⟩ : ∃ t, t = s0 a15 := ⟨_, rfl⟩
          have d1 : ∀ w, Calls Tryd.prog 174 #[.int .u32 (a2 : Int)] w fun e w' => e = .returned (.int .u32 (t1 : Int)) ∧ w' = w := fun w => ht1 ▸ small1_run a2 l2 w
          have d2 : ∀ w, Calls Tryd.prog 175 #[.int .u32 (a15 : Int)] w fun e w' => e = .returned (.int .u32 (t2 : Int)) ∧ w' = w := fun w => ht2 ▸ small0_run a15 l15 w
          obtain ⟨r1, hr1⟩ : ∃ r, r = add32 t1 a7 := ⟨_, rfl⟩
          obtain ⟨r2, hr2⟩ : ∃ r, r = add32 r1 t2 := ⟨_, rfl⟩
          obtain ⟨r3, hr3⟩ : ∃ r, r = add32 r2 a16 := ⟨_, rfl⟩
          have o1 : IntKind.u32.wrap ((t1 : Int) + (a7 : Int)) = (r1 : Int) := by rw [hr1]; exact wrap_add32 _ _
          have o2 : IntKind.u32.wrap ((r1 : Int) + (t2 : Int)) = (r2 : Int) := by rw [hr2]; exact wrap_add32 _ _
          have o3 : IntKind.u32.wrap ((r2 : Int) + (a16 : Int)) = (r3 : Int) := by rw [hr3]; exact wrap_add32 _ _
          have HX : Hid (grow bs (k + 1) = grow bs k ++ [r3]) := by
           have hn : ¬ k < 16 := by omega
           unfold Hid
           simp only [grow, grown, if_neg hn, nextWord, hr3, hr2, hr1, ht1, ht2, ha2, ha7, ha15, ha16]
          clear hi2 hi7 hi15 hi16 ha2 ha7 ha15 ha16 hcell ht1 ht2 hr1 hr2 hr3
          go_wp2
          refine wp_region_still_tail 23 (by kernel_rfl) (by kernel_rfl) ?_
          simp only [List.take_succ_cons, List.take_zero, List.drop_succ_cons, List.drop_zero]
          repeat (first | still_step | still_call (d1 _) | still_call (d2 _))
          try refine wpStill_nil ?_
          go_wp2
          go_roundw
          case rel =>
           refine ⟨k + 1, by omega, by omega, by go_num, (hbel.setCell (by simp; omega) _).drew, (hr.other (by omega) _ _).drew, ?_⟩
           have h1 := hm.set k (r3 : Int)
           rw [show 64 - k = (64 - (k + 1)) + 1 by omega, List.replicate_succ, set_at _ _ _ _ _ (by simp [ints_length, grow_length])] at h1
           rw [HX.out, ints_append]
           exact h1.drew
          case measure => simp [intOf]; omega
        · have hm64 : Arr .u32 238 wr (w.heap.size + 1 + 1) (ints (grow bs 64)) := by
           have e : k = 64 := by omega
           rw [e] at hm
           simpa using hm
          have hlen : ((ints (grow bs 64)).map (Value.int .u32)).length = 64 := by simp [ints_length, grow_length]
          obtain ⟨us, hus⟩ : ∃ us, us = (ints (grow bs 64)).map (Value.int .u32) := ⟨_, rfl⟩
          have h1 : ∀ v ∈ us, v.oneCell' = true := hus ▸ int_oneCell _ _
          have hlen' : us.length = 64 := hus ▸ hlen
          have hmb : Blk 238 wr (w.heap.size + 1 + 1) us := hus ▸ hm64.blk
          have hrb := hr.blk
          have hu0 : us = (us.drop 0).take 64 := by rw [List.drop_zero, List.take_of_length_le (by omega)]
          have hu1 : us = ((List.replicate 64 (0 : Int)).map (Value.int .u32)).take 0 ++ us ++ ((List.replicate 64 (0 : Int)).map (Value.int .u32)).drop (0 + 64) := by
           rw [List.take_zero, List.nil_append, List.drop_eq_nil_of_le (by simp), List.append_nil]
          have HU : Hid (us = (ints (grow bs 64)).map (Value.int .u32)) := hus
          clear hus hm64 hm hr hlen
          go_wp2_with (first
           | (refine wpList_load_blk (by rfl) (.tmp 3) 238 (by rfl) (w.heap.size + 1 + 1) 0 64 (by rfl) (isAgg_array Tryd.underlying238) (sizeOf_run (by kernel_rfl)) hmb us hu0 hlen' ?_)
           | (refine wpList_store_blk (by rfl) (.tmp 2) (.tmp 68) 238 (by rfl) (w.heap.size + 1) 0 64 (by rfl) us (by rfl) (sizeOf_run (by kernel_rfl)) hrb hlen' (by simp) h1 us hu1 ?_
              intro w2 hb2 hbut hsz))
          go_wp2
          refine bodyPost_ret_blk (by rfl) (by rfl) (by rfl) (isAgg_array Tryd.underlying238) (sizeOf_run (by kernel_rfl)) hb2 hlen' ?_
          exact ⟨by rw [HU.out], hbel.trans (hbut.below (by omega) (by have := hbel.size; omega))⟩
end Go.Proofs.YthbldjnpnligpaaDoor

/-
 Package sha: a block is taken.
-/

namespace Go.Proofs.YthbldjnpnligpaaDoor
set_option linter.unusedSimpArgs false
set_option linter.unusedVariables false
set_option maxRecDepth 100000
open Go.RowKit
structure S8 where
 a : Nat
 b : Nat
 c : Nat
 d : Nat
 e : Nat
 f : Nat
 g : Nat
 h : Nat
structure S8.Ok (v : S8) : Prop where
 a : v.a < 4294967296
 b : v.b < 4294967296
 c : v.c < 4294967296
 d : v.d < 4294967296
 e : v.e < 4294967296
 f : v.f < 4294967296
 g : v.g < 4294967296
 h : v.h < 4294967296
def chosen (e f g : Nat) : Nat := (e &&& f) ^^^ ((4294967295 ^^^ e) &&& g)
def most3 (a b c : Nat) : Nat := ((a &&& b) ^^^ (a &&& c)) ^^^ (b &&& c)
def tOne (v : S8) (k w : Nat) : Nat := add32 (add32 (add32 (add32 v.h (g1 v.e)) (chosen v.e v.f v.g)) k) w
def tTwo (v : S8) : Nat := add32 (g0 v.a) (most3 v.a v.b v.c)
def stepped (v : S8) (t1 t2 : Nat) : S8 := ⟨add32 t1 t2, v.a, v.b, v.c, add32 v.d t1, v.e, v.f, v.g⟩
def round1 (v : S8) (k w : Nat) : S8 := stepped v (tOne v k w) (tTwo v)
def rounds (ks ws : List Nat) (v : S8) : Nat → S8
 | 0 => v
 | n + 1 => round1 (rounds ks ws v n) (ks.getD n 0) (ws.getD n 0)
def S8.list (v : S8) : List Nat := [v.a, v.b, v.c, v.d, v.e, v.f, v.g, v.h]
def S8.add (v u : S8) : S8 := ⟨add32 v.a u.a, add32 v.b u.b, add32 v.c u.c, add32 v.d u.d, add32 v.e u.e, add32 v.f u.f, add32 v.g u.g, add32 v.h u.h⟩
def S8.val (v : S8) : List Value := (ints v.list).map (Value.int .u32)
theorem round1_ok (v : S8) (hv : v.Ok) (k w : Nat) : (round1 v k w).Ok := ⟨add32_lt _ _, hv.a, hv.b, hv.c, add32_lt _ _, hv.e, hv.f, hv.g⟩
theorem rounds_ok (ks ws : List Nat) (v : S8) (hv : v.Ok) (n : Nat) : (rounds ks ws v n).Ok := by
 induction n with
 | zero => exact hv
 | succ n ih => exact round1_ok _ ih _ _
def stepNums : List Nat := [1116352408, 1899447441, 3049323471, 3921009573, 961987163, 1508970993, 2453635748, 2870763221, 3624381080, 310598401, 607225278, 1426881987, 1925078388, 2162078206, 2614888103, 3248222580, 3835390401, 4022224774, 264347078, 604807628, 770255983, 1249150122, 1555081692, 1996064986, 2554220882, 2821834349, 2952996808, 3210313671, 3336571891, 3584528711, 113926993, 338241895, 666307205, 773529912, 1294757372, 1396182291, 1695183700, 1986661051, 2177026350, 2456956037, 2730485921, 2820302411, 3259730800, 3345764771, 3516065817, 3600352804, 4094571909, 275423344, 430227734, 506948616, 659060556, 883997877, 958139571, 1322822218, 1537002063, 1747873779, 1955562222, 2024104815, 2227730452, 2361852424, 2428436474, 2756734187, 3204031479, 3329325298]
def takenOf (v : S8) (bs : List Int) : S8 := v.add (rounds stepNums (grow bs 64) v 64)
def addTo (l m : List Nat) (j : Nat) : List Nat := (List.zipWith add32 l m).take j ++ l.drop j
theorem addTo_length (l m : List Nat) (h : l.length = m.length) (j : Nat) : (addTo l m j).length = l.length := by
 unfold addTo; simp; omega
theorem addTo_at (l m : List Nat) (h : l.length = m.length) (j : Nat) (hj : j < l.length) : (addTo l m j).getD j 0 = l.getD j 0 := by
 unfold addTo
 have : ((List.zipWith add32 l m).take j).length = j := by simp; omega
 simp [List.getD, List.getElem?_append, this]
theorem addTo_set (l m : List Nat) (h : l.length = m.length) (j : Nat) (hj : j < l.length) : (addTo l m j).set j (add32 (l.getD j 0) (m.getD j 0)) = addTo l m (j + 1) := by
 unfold addTo
 have h1 : ((List.zipWith add32 l m).take j).length = j := by simp; omega
 rw [List.drop_eq_getElem_cons hj, set_at _ _ _ _ _ h1.symm, List.take_add_one, List.getElem?_eq_getElem (by simp; omega)]
 simp [List.getD, hj, h ▸ hj]
theorem taken_facts {t1 t3 : TypeId} {w w1 w2 : World} {vs1 vs3 : List Value} {c1 c3 : Array Value} {o2 o4 : Obj} (h1 : c1 = vs1.toArray) (h3 : c3 = vs3.toArray)
 (hb1 : Below (((w.alloc (.cells c1 t1)).alloc o2).alloc (.cells c3 t3)).heap.size (((w.alloc (.cells c1 t1)).alloc o2).alloc (.cells c3 t3)) w1) (hbut : But w1.heap.size (w1.alloc o4) w2) :
 Blk t1 w2 w.heap.size vs1 ∧ Blk t3 w2 (w.heap.size + 1 + 1) vs3 ∧ Below w.heap.size w w2 := by
 have a1 : Blk t1 (((w.alloc (.cells c1 t1)).alloc o2).alloc (.cells c3 t3)) w.heap.size vs1 := ((Blk.newAt rfl h1).alloc _).alloc _
 have a3 : Blk t3 (((w.alloc (.cells c1 t1)).alloc o2).alloc (.cells c3 t3)) (w.heap.size + 1 + 1) vs3 := Blk.newAt (by simp) h3
 have hs := hb1.size
 simp at hs
 have b1 := (a1.stays hb1).alloc o4
 have b3 := (a3.stays hb1).alloc o4
 refine ⟨b1.but hbut (by omega), b3.but hbut (by omega), ?_⟩
 have e1 : Below w.heap.size w w1 := ((((Below.refl _ _).alloc (Nat.le_refl _) _).alloc (by simp) _).alloc (by simp; omega) _).trans (hb1.mono (by simp; omega))
 exact (e1.alloc (by omega) o4).trans (hbut.below (by omega) (by simp; omega))
set_option maxRecDepth 100000 in
set_option maxHeartbeats 4000000 in
theorem taken_run (v : S8) (hv : v.Ok) (bs : List Int) (hl : bs.length = 64) (hb : ∀ x ∈ bs, 0 ≤ x ∧ x ≤ 255) (w : World) (hT : Tab .u32 w 1 (ints stepNums)) :
 Calls Tryd.prog 169 #[.agg v.val.toArray, .agg (bs.map (Value.int .u8)).toArray] w fun e w' => e = .returned (.agg (takenOf v bs).val.toArray) ∧ Below w.heap.size w w' := by
 obtain ⟨ts, hts⟩ : ∃ ts, ts = bs.map (Value.int .u8) := ⟨_, rfl⟩
 have htl : ts.length = 64 := by rw [hts]; simpa using hl
 have htu : Hid (ts = (ts.drop 0).take 64) := by unfold Hid; rw [List.drop_zero, List.take_of_length_le (by omega)]
 have hwr := words_run bs hl hb
 rw [← hts] at hwr ⊢
 obtain ⟨us, hus⟩ : ∃ us, us = (ints (grow bs 64)).map (Value.int .u32) := ⟨_, rfl⟩
 rw [← hus] at hwr
 have hul : us.length = 64 := by rw [hus]; simp [ints_length, grow_length]
 have hu1 : Hid (us = ((List.replicate 64 (0 : Int)).map (Value.int .u32)).take 0 ++ us ++ ((List.replicate 64 (0 : Int)).map (Value.int .u32)).drop (0 + 64)) := by
  unfold Hid; rw [List.take_zero, List.nil_append, List.drop_eq_nil_of_le (by simp), List.append_nil]
 have h1 : ∀ v ∈ us, v.oneCell' = true := hus ▸ int_oneCell _ _
 have HU : Hid (us = (ints (grow bs 64)).map (Value.int .u32)) := hus
 have HT : Hid (ts = bs.map (Value.int .u8)) := hts
 clear hus hts
 obtain ⟨va, vb, vc, vd, ve, vf, vg, vh⟩ := v
 simp only [S8.val, S8.list, ints, List.map_cons, List.map_nil]
 have hblk : ∀ o1 o3, Blk 232 (((w.alloc o1).alloc (.cells ts.toArray 232)).alloc o3) (w.heap.size + 1) ts := fun o1 o3 => (Blk.newAt (by simp) rfl).alloc _
 go_enter Tryd.func169, Tryd.ntmps169
 go_wp2_with (first
  | (refine wpList_load_blk (by rfl) (.tmp 3) 232 (by rfl) (w.heap.size + 1) 0 64 (by rfl) (isAgg_array Tryd.underlying232) (sizeOf_run (by kernel_rfl)) (hblk _ _) ts htu.out htl ?_)
  | (go_at_call 171; go_must (refine (hwr _).mono ?_); rintro e w1 ⟨rfl, hb1⟩)
  | (refine wpList_store_blk (by rfl) (.tmp 5) (.tmp 20) 238 (by rfl) w1.heap.size 0 64 (by rfl) us (by rfl) (sizeOf_run (by kernel_rfl)) (vs := (List.replicate 64 (0 : Int)).map (Value.int .u32)) (e := 238) (Blk.newAt rfl (by rfl)) hul (by simp) h1 us hu1.out ?_; intro w2 hb2 hbut hsz))
 obtain ⟨hN, hR, hbel⟩ := taken_facts (vs1 := [Value.int .u32 (va : Int), Value.int .u32 (vb : Int), Value.int .u32 (vc : Int), Value.int .u32 (vd : Int), Value.int .u32 (ve : Int), Value.int .u32 (vf : Int), Value.int .u32 (vg : Int), Value.int .u32 (vh : Int)]) (vs3 := (List.replicate 8 (0 : Int)).map (Value.int .u32)) rfl rfl hb1 hbut
 have hT2 : Tab .u32 w2 1 (ints stepNums) := hT.stays hbel
 have c0 : w2.cell? ⟨w.heap.size, 0, none⟩ = some (.int .u32 (va : Int)) := hN.cell 0
 have c1 : w2.cell? ⟨w.heap.size, 1, none⟩ = some (.int .u32 (vb : Int)) := hN.cell 1
 have c2 : w2.cell? ⟨w.heap.size, 2, none⟩ = some (.int .u32 (vc : Int)) := hN.cell 2
 have c3 : w2.cell? ⟨w.heap.size, 3, none⟩ = some (.int .u32 (vd : Int)) := hN.cell 3
 have c4 : w2.cell? ⟨w.heap.size, 4, none⟩ = some (.int .u32 (ve : Int)) := hN.cell 4
 have c5 : w2.cell? ⟨w.heap.size, 5, none⟩ = some (.int .u32 (vf : Int)) := hN.cell 5
 have c6 : w2.cell? ⟨w.heap.size, 6, none⟩ = some (.int .u32 (vg : Int)) := hN.cell 6
 have c7 : w2.cell? ⟨w.heap.size, 7, none⟩ = some (.int .u32 (vh : Int)) := hN.cell 7
 obtain ⟨G, hG⟩ : ∃ G, G = w1.heap.size := ⟨_, rfl⟩
 rw [← hG] at hb2 ⊢
 have HN := hN
 clear hb1 hbut hsz hG hblk hT hwr
 simp only [Act.put]
 go_quiet (fail)
 go_wp2
 go_quiet (fail)
 go_wp2
 have hW : Tab .u32 w2 G (ints (grow bs 64)) := fun i hi => by
  rw [hb2.cell i, HU.out]
  simp [List.getD, hi]
 go_loopw [6, 7, 8, 9, 10, 11, 12, 13, 37] (fun xa xb xc xd xe xf xg xh i wr => ∃ k : Nat, k ≤ 64 ∧ i = .int .i64 k ∧ (xa = .int .u32 (((rounds stepNums (grow bs 64) ⟨va, vb, vc, vd, ve, vf, vg, vh⟩ k).a : Nat) : Int) ∧ xb = .int .u32 (((rounds stepNums (grow bs 64) ⟨va, vb, vc, vd, ve, vf, vg, vh⟩ k).b : Nat) : Int) ∧ xc = .int .u32 (((rounds stepNums (grow bs 64) ⟨va, vb, vc, vd, ve, vf, vg, vh⟩ k).c : Nat) : Int) ∧ xd = .int .u32 (((rounds stepNums (grow bs 64) ⟨va, vb, vc, vd, ve, vf, vg, vh⟩ k).d : Nat) : Int) ∧ xe = .int .u32 (((rounds stepNums (grow bs 64) ⟨va, vb, vc, vd, ve, vf, vg, vh⟩ k).e : Nat) : Int) ∧ xf = .int .u32 (((rounds stepNums (grow bs 64) ⟨va, vb, vc, vd, ve, vf, vg, vh⟩ k).f : Nat) : Int) ∧ xg = .int .u32 (((rounds stepNums (grow bs 64) ⟨va, vb, vc, vd, ve, vf, vg, vh⟩ k).g : Nat) : Int) ∧ xh = .int .u32 (((rounds stepNums (grow bs 64) ⟨va, vb, vc, vd, ve, vf, vg, vh⟩ k).h : Nat) : Int)) ∧ Below w.heap.size w wr ∧
  Blk 217 wr w.heap.size [Value.int .u32 (va : Int), Value.int .u32 (vb : Int), Value.int .u32 (vc : Int), Value.int .u32 (vd : Int), Value.int .u32 (ve : Int), Value.int .u32 (vf : Int), Value.int .u32 (vg : Int), Value.int .u32 (vh : Int)] ∧
  Blk 217 wr (w.heap.size + 1 + 1) ((List.replicate 8 (0 : Int)).map (Value.int .u32)) ∧ Tab .u32 wr 1 (ints stepNums) ∧ Tab .u32 wr G (ints (grow bs 64))) (fun _ _ _ _ _ _ _ _ i _ => 64 - (intOf i).toNat)
 case atStart => exact ⟨0, by omega, rfl, ⟨rfl, rfl, rfl, rfl, rfl, rfl, rfl, rfl⟩, below_drewN (below_drewN hbel _) _, hN, hR, hT2, hW⟩
 case round =>
  clear hbel hN hR hT2 hW c0 c1 c2 c3 c4 c5 c6 c7 HN hb2
  rename_i hrel
  obtain ⟨k, hk, rfl, ⟨rfl, rfl, rfl, rfl, rfl, rfl, rfl, rfl⟩, hbel, hN, hR, hT2, hW⟩ := hrel
  by_cases hlt : k < 64
  · obtain ⟨v, hvv⟩ : ∃ v, v = rounds stepNums (grow bs 64) ⟨va, vb, vc, vd, ve, vf, vg, vh⟩ k := ⟨_, rfl⟩
    have hok : v.Ok := hvv ▸ rounds_ok _ _ _ hv k
    obtain ⟨kk, hkk⟩ : ∃ x, x = stepNums.getD k 0 := ⟨_, rfl⟩
    obtain ⟨ww, hww⟩ : ∃ x, x = (grow bs 64).getD k 0 := ⟨_, rfl⟩
    have ck : wr.cell? ⟨1, k, none⟩ = some (.int .u32 (kk : Int)) := by
        rw [hT2 k (by rw [ints_length]; exact hlt), ints_getD, ← hkk]
    have cw : wr.cell? ⟨G, k, none⟩ = some (.int .u32 (ww : Int)) := by
        rw [hW k (by rw [ints_length, grow_length]; exact hlt), ints_getD, ← hww]
    have bk : (k : Int) < 64 := by omega
    have HR : Hid (rounds stepNums (grow bs 64) ⟨va, vb, vc, vd, ve, vf, vg, vh⟩ (k + 1) = round1 v kk ww) := by
        unfold Hid
        rw [hvv, hkk, hww]
        rfl
    rw [← hvv]
    clear hvv hkk hww
    obtain ⟨a, b, c, d, e, f, g, h⟩ := v
    obtain ⟨oa, ob, oc, od, oe, of, og, oh⟩ := hok
    dsimp only at *
    obtain ⟨q1, hq1⟩ : ∃ x, x = g1 e := ⟨_, rfl⟩
    have d1 : ∀ w, Calls Tryd.prog 172 #[.int .u32 (e : Int)] w fun e w' => e = .returned (.int .u32 (q1 : Int)) ∧ w' = w := fun w => hq1 ▸ great1_run e oe w
    obtain ⟨p1, hp1⟩ : ∃ x, x = add32 h q1 := ⟨_, rfl⟩
    obtain ⟨x1, hx1⟩ : ∃ x, x = e &&& f := ⟨_, rfl⟩
    obtain ⟨ne, hne⟩ : ∃ x, x = 4294967295 ^^^ e := ⟨_, rfl⟩
    obtain ⟨x2, hx2⟩ : ∃ x, x = ne &&& g := ⟨_, rfl⟩
    obtain ⟨x3, hx3⟩ : ∃ x, x = x1 ^^^ x2 := ⟨_, rfl⟩
    obtain ⟨p2, hp2⟩ : ∃ x, x = add32 p1 x3 := ⟨_, rfl⟩
    obtain ⟨p3, hp3⟩ : ∃ x, x = add32 p2 kk := ⟨_, rfl⟩
    obtain ⟨p4, hp4⟩ : ∃ x, x = add32 p3 ww := ⟨_, rfl⟩
    have lne : ne < 4294967296 := hne ▸ xor_lt _ _ (by decide) oe
    have lx1 : x1 < 4294967296 := hx1 ▸ and_lt' _ _ oe
    have lx2 : x2 < 4294967296 := hx2 ▸ and_lt' _ _ lne
    have e1 : bits .and .u32 (e : Int) (f : Int) = (x1 : Int) := by rw [u32_and_nat _ _ oe of, hx1]
    have e2 : bits .xor .u32 4294967295 (e : Int) = (ne : Int) := by
        have := u32_xor_nat 4294967295 e (by decide) oe
        rw [hne]; exact this
    have em : (if IntKind.u32.signed = true then (-1 : Int) else IntKind.u32.max) = 4294967295 := by decide
    have e3 : bits .and .u32 (ne : Int) (g : Int) = (x2 : Int) := by rw [u32_and_nat _ _ lne og, hx2]
    have e4 : bits .xor .u32 (x1 : Int) (x2 : Int) = (x3 : Int) := by rw [u32_xor_nat _ _ lx1 lx2, hx3]
    have e5 : IntKind.u32.wrap ((h : Int) + (q1 : Int)) = (p1 : Int) := by rw [hp1]; exact wrap_add32 _ _
    have e6 : IntKind.u32.wrap ((p1 : Int) + (x3 : Int)) = (p2 : Int) := by rw [hp2]; exact wrap_add32 _ _
    have e7 : IntKind.u32.wrap ((p2 : Int) + (kk : Int)) = (p3 : Int) := by rw [hp3]; exact wrap_add32 _ _
    have e8 : IntKind.u32.wrap ((p3 : Int) + (ww : Int)) = (p4 : Int) := by rw [hp4]; exact wrap_add32 _ _
    obtain ⟨q2, hq2⟩ : ∃ x, x = g0 a := ⟨_, rfl⟩
    have d2 : ∀ w, Calls Tryd.prog 173 #[.int .u32 (a : Int)] w fun e w' => e = .returned (.int .u32 (q2 : Int)) ∧ w' = w := fun w => hq2 ▸ great0_run a oa w
    obtain ⟨y1, hy1⟩ : ∃ x, x = a &&& b := ⟨_, rfl⟩
    obtain ⟨y2, hy2⟩ : ∃ x, x = a &&& c := ⟨_, rfl⟩
    obtain ⟨y3, hy3⟩ : ∃ x, x = y1 ^^^ y2 := ⟨_, rfl⟩
    obtain ⟨y4, hy4⟩ : ∃ x, x = b &&& c := ⟨_, rfl⟩
    obtain ⟨y5, hy5⟩ : ∃ x, x = y3 ^^^ y4 := ⟨_, rfl⟩
    obtain ⟨y6, hy6⟩ : ∃ x, x = add32 q2 y5 := ⟨_, rfl⟩
    obtain ⟨z1, hz1⟩ : ∃ x, x = add32 p4 y6 := ⟨_, rfl⟩
    obtain ⟨z2, hz2⟩ : ∃ x, x = add32 d p4 := ⟨_, rfl⟩
    have ly1 : y1 < 4294967296 := hy1 ▸ and_lt' _ _ oa
    have ly2 : y2 < 4294967296 := hy2 ▸ and_lt' _ _ oa
    have ly3 : y3 < 4294967296 := hy3 ▸ xor_lt _ _ ly1 ly2
    have ly4 : y4 < 4294967296 := hy4 ▸ and_lt' _ _ ob
    have f1 : bits .and .u32 (a : Int) (b : Int) = (y1 : Int) := by rw [u32_and_nat _ _ oa ob, hy1]
    have f2 : bits .and .u32 (a : Int) (c : Int) = (y2 : Int) := by rw [u32_and_nat _ _ oa oc, hy2]
    have f3 : bits .xor .u32 (y1 : Int) (y2 : Int) = (y3 : Int) := by rw [u32_xor_nat _ _ ly1 ly2, hy3]
    have f4 : bits .and .u32 (b : Int) (c : Int) = (y4 : Int) := by rw [u32_and_nat _ _ ob oc, hy4]
    have f5 : bits .xor .u32 (y3 : Int) (y4 : Int) = (y5 : Int) := by rw [u32_xor_nat _ _ ly3 ly4, hy5]
    have f6 : ((q2 : Int) + (y5 : Int)) % 4294967296 = (y6 : Int) := by rw [hy6, ← wrap_add32, IntKind.wrap_u32]
    have f7 : ((p4 : Int) + (y6 : Int)) % 4294967296 = (z1 : Int) := by rw [hz1, ← wrap_add32, IntKind.wrap_u32]
    have f8 : ((d : Int) + (p4 : Int)) % 4294967296 = (z2 : Int) := by rw [hz2, ← wrap_add32, IntKind.wrap_u32]
    have HZ : Hid (round1 ⟨a, b, c, d, e, f, g, h⟩ kk ww = ⟨z1, a, b, c, z2, e, f, g⟩) := by
        unfold Hid round1 stepped tOne tTwo chosen most3
        dsimp only
        rw [hz1, hz2, hy6, hy5, hy4, hy3, hy2, hy1, hq2, hp4, hp3, hp2, hp1, hx3, hx2, hne, hx1, hq1]
    clear hq1 hp1 hx1 hne hx2 hx3 hp2 hp3 hp4 hq2 hy1 hy2 hy3 hy4 hy5 hy6 hz1 hz2
    go_wp2
    go_quiet (first | (go_at_call 172; refine Calls.quiet_of_same (d1 _)))
    go_wp2_with (go_at_call 173; go_must (refine (d2 _).mono ?_); rintro e w' ⟨rfl, rfl⟩)
    go_roundw
    case rel =>
        refine ⟨k + 1, by omega, by go_num, ?_, below_drewN hbel _, hN, hR, hT2, hW⟩
        rw [HR.out, HZ.out]
        exact ⟨by rw [f7], rfl, rfl, rfl, by rw [f8], rfl, rfl, rfl⟩
    case measure => simp [intOf]; omega
  · have HK : Hid (k = 64) := by unfold Hid; omega
    obtain ⟨v, hvv⟩ : ∃ v, v = rounds stepNums (grow bs 64) ⟨va, vb, vc, vd, ve, vf, vg, vh⟩ k := ⟨_, rfl⟩
    have HV : Hid (v = rounds stepNums (grow bs 64) ⟨va, vb, vc, vd, ve, vf, vg, vh⟩ k) := hvv
    rw [← hvv]
    clear hvv
    obtain ⟨a, b, c, d, e, f, g, h⟩ := v
    dsimp only at *
    go_wp2
    go_loopw [97] (fun i wr => ∃ j : Nat, j ≤ 8 ∧ i = .int .i64 j ∧ Below w.heap.size w wr ∧ Arr .u32 217 wr w.heap.size (ints (addTo [va, vb, vc, vd, ve, vf, vg, vh] [a, b, c, d, e, f, g, h] j)) ∧
     Blk 217 wr (w.heap.size + 1 + 1) ((List.replicate 8 (0 : Int)).map (Value.int .u32))) (fun i _ => 8 - (intOf i).toNat)
    case atStart => exact ⟨0, by omega, rfl, hbel, hN, hR⟩
    case round =>
        clear hbel hN hR hT2 hW
        rename_i hrel
        obtain ⟨j, hj, rfl, hbel, hN, hR⟩ := hrel
        by_cases hlj : j < 8
        · obtain ⟨x, hx⟩ : ∃ x, x = [a, b, c, d, e, f, g, h].getD j 0 := ⟨_, rfl⟩
          obtain ⟨y, hy⟩ : ∃ x, x = [va, vb, vc, vd, ve, vf, vg, vh].getD j 0 := ⟨_, rfl⟩
          have hal : (addTo [va, vb, vc, vd, ve, vf, vg, vh] [a, b, c, d, e, f, g, h] j).length = 8 := addTo_length _ _ (by simp) j
          have ci : wr.cell? ⟨w.heap.size, j, none⟩ = some (.int .u32 (y : Int)) := by
           have hat : (addTo [va, vb, vc, vd, ve, vf, vg, vh] [a, b, c, d, e, f, g, h] j).getD j 0 = [va, vb, vc, vd, ve, vf, vg, vh].getD j 0 := addTo_at _ _ (by simp) j (by simpa using hlj)
           rw [hN.cell j (by rw [ints_length, hal]; exact hlj), ints_getD, hat, ← hy]
          have fz := hN.free j
          have hix : (#[Value.int .u32 (a : Int), Value.int .u32 (b : Int), Value.int .u32 (c : Int), Value.int .u32 (d : Int), Value.int .u32 (e : Int), Value.int .u32 (f : Int), Value.int .u32 (g : Int), Value.int .u32 (h : Int)] : Array Value)[j]? = some (.int .u32 (x : Int)) := by
           have h0 : (#[Value.int .u32 (a : Int), Value.int .u32 (b : Int), Value.int .u32 (c : Int), Value.int .u32 (d : Int), Value.int .u32 (e : Int), Value.int .u32 (f : Int), Value.int .u32 (g : Int), Value.int .u32 (h : Int)] : Array Value) = ([a, b, c, d, e, f, g, h].map fun (n : Nat) => Value.int .u32 (n : Int)).toArray := rfl
           rw [h0, List.getElem?_toArray, List.getElem?_map, List.getElem?_eq_getElem (by simpa using hlj), hx]
           simp [List.getD, hlj]
          have hin := index_agg (P := Tryd.prog) Tryd.underlying217 Tryd.underlying34 (by kernel_rfl) hlj hix .i64
          clear hix
          obtain ⟨z, hz⟩ : ∃ z, z = add32 y x := ⟨_, rfl⟩
          have e1 : IntKind.u32.wrap ((y : Int) + (x : Int)) = (z : Int) := by rw [hz]; exact wrap_add32 _ _
          have e2 : ((y : Int) + (x : Int)) % 4294967296 = (z : Int) := by rw [hz, ← wrap_add32, IntKind.wrap_u32]
          have HZ : Hid (z = add32 ([va, vb, vc, vd, ve, vf, vg, vh].getD j 0) ([a, b, c, d, e, f, g, h].getD j 0)) := by unfold Hid; rw [hz, hx, hy]
          have bj : (j : Int) < 8 := by omega
          clear hx hy hz
          go_wp2
          go_roundw
          case rel =>
           refine ⟨j + 1, by omega, by go_num, hbel.setCell (by simp) _, ?_, ?_⟩
           · have h1 := hN.set j (z : Int)
             have h2 : (ints (addTo [va, vb, vc, vd, ve, vf, vg, vh] [a, b, c, d, e, f, g, h] j)).set j (z : Int) = ints (addTo [va, vb, vc, vd, ve, vf, vg, vh] [a, b, c, d, e, f, g, h] (j + 1)) := by
              rw [← addTo_set _ _ (by simp) j (by simpa using hlj), HZ.out]
              unfold ints
              rw [List.map_set]
             rw [h2] at h1
             exact h1
           · exact hR.but ((But.refl _ _).setCell _ _) (by omega)
          case measure => simp [intOf]; omega
        · have h8 : Blk 217 wr w.heap.size (takenOf ⟨va, vb, vc, vd, ve, vf, vg, vh⟩ bs).val := by
           have e : j = 8 := by omega
           have hk64 := HK.out
           have hvv := HV.out
           subst e
           subst hk64
           unfold takenOf S8.val S8.list S8.add
           rw [← hvv]
           exact hN
          obtain ⟨vs, hvs⟩ : ∃ vs, vs = (takenOf ⟨va, vb, vc, vd, ve, vf, vg, vh⟩ bs).val := ⟨_, rfl⟩
          have hvl : vs.length = 8 := by rw [hvs]; rfl
          have hv1 : ∀ v ∈ vs, v.oneCell' = true := hvs ▸ int_oneCell _ _
          have hv0 : Hid (vs = (vs.drop 0).take 8) := by unfold Hid; rw [List.drop_zero, List.take_of_length_le (by omega)]
          have hv2 : Hid (vs = ((List.replicate 8 (0 : Int)).map (Value.int .u32)).take 0 ++ vs ++ ((List.replicate 8 (0 : Int)).map (Value.int .u32)).drop (0 + 8)) := by
           unfold Hid; rw [List.take_zero, List.nil_append, List.drop_eq_nil_of_le (by simp), List.append_nil]
          rw [← hvs] at h8
          have HVS : Hid (vs = (takenOf ⟨va, vb, vc, vd, ve, vf, vg, vh⟩ bs).val) := hvs
          clear hvs hN
          go_wp2_with (first
           | (refine wpList_load_blk (by rfl) (.tmp 2) 217 (by rfl) w.heap.size 0 8 (by rfl) (isAgg_array Tryd.underlying217) (sizeOf_run (by kernel_rfl)) h8 vs hv0.out hvl ?_)
           | (refine wpList_store_blk (by rfl) (.tmp 4) (.tmp 108) 217 (by rfl) (w.heap.size + 1 + 1) 0 8 (by rfl) vs (by rfl) (sizeOf_run (by kernel_rfl)) hR hvl (by simp) hv1 vs hv2.out ?_
              intro w3 hb3 hbut3 hsz3))
          go_wp2
          refine bodyPost_ret_blk (by rfl) (by rfl) (by rfl) (isAgg_array Tryd.underlying217) (sizeOf_run (by kernel_rfl)) hb3 hvl ?_
          exact ⟨by rw [HVS.out]; rfl, hbel.trans (hbut3.below (by omega) (by have := hbel.size; omega))⟩
end Go.Proofs.YthbldjnpnligpaaDoor
