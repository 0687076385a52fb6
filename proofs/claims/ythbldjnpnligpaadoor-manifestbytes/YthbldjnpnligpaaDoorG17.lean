/-
  The hash's bytes are bytes.
-/
import Derived.Test.YthbldjnpnligpaaDoorG16
import Derived.Test.YthbldjnpnligpaaDoorG03
namespace Go.Proofs.YthbldjnpnligpaaDoor
set_option linter.unusedSimpArgs false
set_option linter.unusedVariables false
set_option maxRecDepth 100000
open Go.RowKit

theorem bytes4_rng (n : Nat) (hn : n < 4294967296) : ∀ x ∈ bytes4 n, 0 ≤ x ∧ x ≤ 255 := by
  intro x hx
  simp only [bytes4, List.mem_cons, List.not_mem_nil, or_false] at hx
  rcases hx with rfl | rfl | rfl | rfl <;> omega

theorem shaOf_rng (xs : List Int) : ∀ x ∈ shaOf xs, 0 ≤ x ∧ x ≤ 255 := by
  intro x hx
  unfold shaOf S8.bytes at hx
  obtain ⟨n, hn, hxn⟩ := List.mem_flatMap.1 hx
  refine bytes4_rng n ?_ x hxn
  have hok := hashed_ok (xs ++ padOf xs.length)
  simp only [S8.list, List.mem_cons, List.not_mem_nil, or_false] at hn
  rcases hn with rfl | rfl | rfl | rfl | rfl | rfl | rfl | rfl
  · exact hok.a
  · exact hok.b
  · exact hok.c
  · exact hok.d
  · exact hok.e
  · exact hok.f
  · exact hok.g
  · exact hok.h

end Go.Proofs.YthbldjnpnligpaaDoor

/-
  The document's answer for package sha: turned numbers, the tables.
-/

namespace Go.Proofs.YthbldjnpnligpaaDoor
set_option linter.unusedSimpArgs false
set_option linter.unusedVariables false
set_option maxRecDepth 100000
open Go.RowKit

theorem turn_run (x : Nat) (m : Int) (hx : x < 4294967296) (h1 : 1 ≤ m) (h2 : m ≤ 31) (w : World) :
    Calls Tryd.prog 167 #[.int .u32 (x : Int), .int .u64 m] w fun e w' => e = .returned (.int .u32 (rotr x m.toNat : Nat)) ∧ w' = w := by
  obtain ⟨n, rfl⟩ : ∃ n : Nat, m = n := ⟨m.toNat, by omega⟩
  have ho : bits BinOp.or IntKind.u32 ((x : Int) / 2 ^ n) ((x : Int) * 2 ^ (32 - n) % 4294967296) = ((rotr x n : Nat) : Int) := by
    have e1 : (x : Int) * 2 ^ (32 - n) % 4294967296 = ((x * 2 ^ (32 - n) % 4294967296 : Nat) : Int) := by rw [Int.natCast_emod, Int.natCast_mul, Int.natCast_pow]; rfl
    have e2 : (x : Int) / 2 ^ n = ((x / 2 ^ n : Nat) : Int) := by rw [Int.natCast_ediv, Int.natCast_pow]; rfl
    rw [e1, e2, u32_or_nat _ _ (div_lt' _ _ hx) (Nat.mod_lt _ (Nat.zero_lt_of_lt hx)), Nat.or_comm]
    rfl
  go_enter Tryd.func167, Tryd.ntmps167
  go_wp2
  go_ret
  exact ⟨rfl, rfl⟩

theorem start_run (w : World) : Calls Tryd.prog 149 #[] w fun e w' => e = .returned (.agg firsts8.val.toArray) ∧ Below w.heap.size w w' := by
  go_enter Tryd.func149, Tryd.ntmps149
  go_wp2_with (refine wpList_store_blk (by rfl) (.tmp 0) (.tmp 1) 217 (by rfl) w.heap.size 0 8 (by rfl) firsts8.val (by rfl) (sizeOf_run (by kernel_rfl)) (e := 217) (vs := (List.replicate 8 (0 : Int)).map (Value.int .u32)) (Blk.newAt rfl (by rfl)) rfl (by decide) (int_oneCell _ _) firsts8.val (by rfl) ?_
               intro w6 hb6 hbut6 hsz6)
  refine bodyPost_ret_blk (by rfl) (by rfl) (by rfl) (isAgg_array Tryd.underlying217) (sizeOf_run (by kernel_rfl)) hb6 (by rfl) ?_
  exact ⟨rfl, ((Below.refl _ _).alloc (Nat.le_refl _) _).trans (hbut6.below (Nat.le_refl _) (by simp))⟩

theorem steps_run (w : World) : Calls Tryd.prog 150 #[] w fun e w' => e = .returned (.slice (some ⟨w.heap.size, 0, none⟩) 64 64) ∧ Tab .u32 w' w.heap.size (ints stepNums) ∧ Below w.heap.size w w' := by
  go_enter Tryd.func150, Tryd.ntmps150
  go_wp2
  go_ret
  refine ⟨rfl, fun i hi => ?_, (Below.refl _ _).alloc (Nat.le_refl _) _⟩
  exact Arr.cell (Arr.new (K := .u32) (e := 34) (w := w) (cur := ints stepNums) rfl) i hi
end Go.Proofs.YthbldjnpnligpaaDoor

/-
  A row of integers, made.
-/

namespace Go.Proofs.YthbldjnpnligpaaDoor
set_option linter.unusedSimpArgs false
set_option linter.unusedVariables false
set_option maxRecDepth 100000
open Go.RowKit

theorem wpList_make_ints {P : Program} {w w0 : World} {ops : Array Oper} {rest : List Oper} {o : Oper} {a : Act} {Q : Exit → Act → World → Prop} {K : IntKind}
    (hg : o.guard = none) (l c : Operand) (t : TypeId) (hop : o.op = Op.makeSlice t l c)
    (base : Nat) (e : TypeId) (i : TypeInfo) (ht : P.underlying t = some (.slice e)) (hi : P.info? e = some i) (hz : i.zero = some (.int K 0)) (hsize : i.size = 1) (hby : i.bytes ≤ 8)
    (kl kc : IntKind) (L C : Int) (n : Nat) (hl : a.eval l = .int kl L) (hc : a.eval c = .int kc C) (hL : L = (n : Int)) (hC : C = (n : Int)) (b2 : n ≤ 35184372088832) (hbase : base ≤ w.heap.size) (hb : Below base w0 w)
    (hK : ∀ w', Arr K e w' w.heap.size (List.replicate n 0) → Below w.heap.size w w' → Below base w0 w' → w.heap.size < w'.heap.size → wpList P ops Q rest (a.put o.dst (.slice (some ⟨w.heap.size, 0, none⟩) n n)) w') :
    wpList P ops Q (o :: rest) a w := by
  have hbn : i.bytes * n ≤ 281474976710656 := Nat.le_trans (Nat.mul_le_mul hby b2) (by decide)
  refine wpList_make_full w hg l c t hop w.heap.size e i (.int K 0) 1 ht hi hz hsize kl kc L C n hl hc hL hC hbn (by unfold maxLen; omega) (Nat.le_refl _) ?_
  intro w' hown hgr
  have hbw : Below w.heap.size w w' := (Below.refl _ _).grown hgr (Nat.le_refl _) (by simp)
  have harr : Arr K e w' w.heap.size (List.replicate n 0) := by
    rcases hown.2 with ⟨h, _⟩ | ⟨g, cap, cur, hv, hg, hh, h1, h2, h3, h4⟩
    · simp at h
    · simp only [Value.slice.injEq, Option.some.injEq, Addr.mk.injEq, and_true, true_and] at hv
      obtain ⟨h5, h6⟩ := hv
      subst h5 h6
      unfold Arr
      rw [hh]
      congr 2
      have hcs : cur.toList = List.replicate n (Value.int K 0) := by
        have e1 : cur.toList.take (n * 1) = cur.toList := List.take_of_length_le (by simp [h3])
        rw [← e1, h4]
        have e2 : (Value.int K 0).cells = #[.int K 0] := rfl
        rw [e2, Nat.mul_one, toList_madeCells_one]
      rw [List.map_replicate, ← hcs]
  exact hK w' harr hbw (hb.trans (hbw.mono hbase)) harr.lt
end Go.Proofs.YthbldjnpnligpaaDoor
