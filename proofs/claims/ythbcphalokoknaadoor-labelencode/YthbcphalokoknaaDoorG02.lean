/-
  Package sha: turned numbers.
-/
import Derived.Test.YthbcphalokoknaaDoorG01
import Derived.Test.YthbcphalokoknaaDoorRows
import Derived.Laws.BitsAllLaws
import Derived.Laws.ShiftsVarLaws
import Derived.Deep.QuietTactic
import Derived.BigQuiet
import Derived.StillTailTactics
import Derived.Laws.CopyRow
import Derived.Laws.CopyOwn
import Derived.Laws.Cells
namespace Go.Proofs.YthbcphalokoknaaDoor
set_option linter.unusedSimpArgs false
set_option linter.unusedVariables false
open Go.RowKit

/-- x turned right by n. -/
def rotr (x n : Nat) : Nat := (x * 2 ^ (32 - n) % 4294967296) ||| (x / 2 ^ n)

theorem rotr_lt (x n : Nat) (hx : x < 4294967296) : rotr x n < 4294967296 := by
  unfold rotr
  apply Nat.or_lt_two_pow (n := 32)
  · exact Nat.mod_lt _ (by decide)
  · exact Nat.lt_of_le_of_lt (Nat.div_le_self _ _) hx

theorem xor_lt (a b : Nat) (ha : a < 4294967296) (hb : b < 4294967296) : a ^^^ b < 4294967296 := Nat.xor_lt_two_pow (n := 32) ha hb
theorem and_lt' (a b : Nat) (ha : a < 4294967296) : a &&& b < 4294967296 := Nat.lt_of_le_of_lt Nat.and_le_left ha
theorem div_lt' (a b : Nat) (ha : a < 4294967296) : a / b < 4294967296 := Nat.lt_of_le_of_lt (Nat.div_le_self _ _) ha

def s0 (x : Nat) : Nat := (rotr x 7 ^^^ rotr x 18) ^^^ x / 8
def s1 (x : Nat) : Nat := (rotr x 17 ^^^ rotr x 19) ^^^ x / 1024
def g0 (x : Nat) : Nat := (rotr x 2 ^^^ rotr x 13) ^^^ rotr x 22
def g1 (x : Nat) : Nat := (rotr x 6 ^^^ rotr x 11) ^^^ rotr x 25

theorem s0_lt (x : Nat) (hx : x < 4294967296) : s0 x < 4294967296 := xor_lt _ _ (xor_lt _ _ (rotr_lt _ _ hx) (rotr_lt _ _ hx)) (div_lt' _ _ hx)
theorem s1_lt (x : Nat) (hx : x < 4294967296) : s1 x < 4294967296 := xor_lt _ _ (xor_lt _ _ (rotr_lt _ _ hx) (rotr_lt _ _ hx)) (div_lt' _ _ hx)
theorem g0_lt (x : Nat) (hx : x < 4294967296) : g0 x < 4294967296 := xor_lt _ _ (xor_lt _ _ (rotr_lt _ _ hx) (rotr_lt _ _ hx)) (rotr_lt _ _ hx)
theorem g1_lt (x : Nat) (hx : x < 4294967296) : g1 x < 4294967296 := xor_lt _ _ (xor_lt _ _ (rotr_lt _ _ hx) (rotr_lt _ _ hx)) (rotr_lt _ _ hx)

theorem rotateLeft_run (x n : Nat) (hx : x < 4294967296) (h1 : 1 ≤ n) (h2 : n ≤ 31) (w : World) :
    Calls Tryd.prog 84 #[.int .u32 (x : Int), .int .i64 (-(n : Int))] w fun e w' => e = .returned (.int .u32 (rotr x n : Nat)) ∧ w' = w := by
  have hc : IntKind.u64.wrap (-(n : Int)) = 18446744073709551616 - n := by
    simp [IntKind.wrap, IntKind.bits, IntKind.signed]; omega
  have hs : bits .and .u64 (18446744073709551616 - (n : Int)) 31 = ((32 - n : Nat) : Int) := by
    have h := u64_and (18446744073709551616 - (n : Int)) 31 (by omega) (by omega) (by decide) (by decide)
    rw [h]
    have e : (18446744073709551616 - (n : Int)).toNat = 18446744073709551616 - n := by omega
    rw [e]
    have e2 : (31 : Int).toNat = 2 ^ 5 - 1 := rfl
    rw [e2, Nat.and_two_pow_sub_one_eq_mod]
    congr 1
    omega
  have ho : bits BinOp.or IntKind.u32 ((x : Int) * 2 ^ (32 - n) % 4294967296) ((x : Int) / 2 ^ (32 - (32 - n))) = ((rotr x n : Nat) : Int) := by
    have e1 : (x : Int) * 2 ^ (32 - n) % 4294967296 = ((x * 2 ^ (32 - n) % 4294967296 : Nat) : Int) := by rw [Int.natCast_emod, Int.natCast_mul, Int.natCast_pow]; rfl
    have e2 : (x : Int) / 2 ^ (32 - (32 - n)) = ((x / 2 ^ n : Nat) : Int) := by
      rw [show 32 - (32 - n) = n by omega, Int.natCast_ediv, Int.natCast_pow]; rfl
    rw [e1, e2, u32_or_nat _ _ (Nat.mod_lt _ (Nat.zero_lt_of_lt hx)) (div_lt' _ _ hx)]
    rfl
  go_enter Tryd.func84, Tryd.ntmps84
  go_wp2
  go_ret
  exact ⟨rfl, rfl⟩

theorem rotated_run (x n : Nat) (hx : x < 4294967296) (h1 : 1 ≤ n) (h2 : n ≤ 31) (w : World) :
    Calls Tryd.prog 83 #[.int .u32 (x : Int), .int .i64 (n : Int)] w fun e w' => e = .returned (.int .u32 (rotr x n : Nat)) ∧ w' = w := by
  go_enter Tryd.func83, Tryd.ntmps83
  go_wp2_with (go_at_call 84; go_must (refine (rotateLeft_run x n hx h1 h2 _).mono ?_); rintro e w' ⟨rfl, rfl⟩)
  go_ret
  exact ⟨rfl, rfl⟩

theorem rotated_by (x : Nat) (m : Int) (hx : x < 4294967296) (h1 : 1 ≤ m) (h2 : m ≤ 31) (w : World) :
    Calls Tryd.prog 83 #[.int .u32 (x : Int), .int .i64 m] w fun e w' => e = .returned (.int .u32 (rotr x m.toNat : Nat)) ∧ w' = w := by
  have h := rotated_run x m.toNat hx (by omega) (by omega) w
  rw [Int.toNat_of_nonneg (by omega)] at h
  exact h

theorem small0_run (x : Nat) (hx : x < 4294967296) (w : World) :
    Calls Tryd.prog 82 #[.int .u32 (x : Int)] w fun e w' => e = .returned (.int .u32 (s0 x : Nat)) ∧ w' = w := by
  obtain ⟨y, hy⟩ : ∃ y, y = x / 8 := ⟨_, rfl⟩
  have hyl : y < 4294967296 := hy ▸ div_lt' _ _ hx
  have e1 := u32_xor_nat (rotr x 7) (rotr x 18) (rotr_lt _ _ hx) (rotr_lt _ _ hx)
  have e2 := u32_xor_nat ((rotr x 7) ^^^ (rotr x 18)) y (xor_lt _ _ (rotr_lt _ _ hx) (rotr_lt _ _ hx)) hyl
  have e3 : (x : Int) / 8 = (y : Int) := by omega
  have HY : Hid (y = x / 8) := hy
  clear hy
  go_enter Tryd.func82, Tryd.ntmps82
  go_wp2_with (go_at_call 83; go_must (refine (rotated_by x _ hx (by decide) (by decide) _).mono ?_); rintro e w' ⟨rfl, rfl⟩)
  go_ret
  exact ⟨by rw [HY.out]; rfl, rfl⟩

theorem small1_run (x : Nat) (hx : x < 4294967296) (w : World) :
    Calls Tryd.prog 81 #[.int .u32 (x : Int)] w fun e w' => e = .returned (.int .u32 (s1 x : Nat)) ∧ w' = w := by
  obtain ⟨y, hy⟩ : ∃ y, y = x / 1024 := ⟨_, rfl⟩
  have hyl : y < 4294967296 := hy ▸ div_lt' _ _ hx
  have e1 := u32_xor_nat (rotr x 17) (rotr x 19) (rotr_lt _ _ hx) (rotr_lt _ _ hx)
  have e2 := u32_xor_nat ((rotr x 17) ^^^ (rotr x 19)) y (xor_lt _ _ (rotr_lt _ _ hx) (rotr_lt _ _ hx)) hyl
  have e3 : (x : Int) / 1024 = (y : Int) := by omega
  have HY : Hid (y = x / 1024) := hy
  clear hy
  go_enter Tryd.func81, Tryd.ntmps81
  go_wp2_with (go_at_call 83; go_must (refine (rotated_by x _ hx (by decide) (by decide) _).mono ?_); rintro e w' ⟨rfl, rfl⟩)
  go_ret
  exact ⟨by rw [HY.out]; rfl, rfl⟩

theorem great0_run (x : Nat) (hx : x < 4294967296) (w : World) :
    Calls Tryd.prog 80 #[.int .u32 (x : Int)] w fun e w' => e = .returned (.int .u32 (g0 x : Nat)) ∧ w' = w := by
  have e1 := u32_xor_nat (rotr x 2) (rotr x 13) (rotr_lt _ _ hx) (rotr_lt _ _ hx)
  have e2 := u32_xor_nat ((rotr x 2) ^^^ (rotr x 13)) (rotr x 22) (xor_lt _ _ (rotr_lt _ _ hx) (rotr_lt _ _ hx)) (rotr_lt _ _ hx)
  go_enter Tryd.func80, Tryd.ntmps80
  go_wp2_with (go_at_call 83; go_must (refine (rotated_by x _ hx (by decide) (by decide) _).mono ?_); rintro e w' ⟨rfl, rfl⟩)
  go_ret
  exact ⟨rfl, rfl⟩

theorem great1_run (x : Nat) (hx : x < 4294967296) (w : World) :
    Calls Tryd.prog 79 #[.int .u32 (x : Int)] w fun e w' => e = .returned (.int .u32 (g1 x : Nat)) ∧ w' = w := by
  have e1 := u32_xor_nat (rotr x 6) (rotr x 11) (rotr_lt _ _ hx) (rotr_lt _ _ hx)
  have e2 := u32_xor_nat ((rotr x 6) ^^^ (rotr x 11)) (rotr x 25) (xor_lt _ _ (rotr_lt _ _ hx) (rotr_lt _ _ hx)) (rotr_lt _ _ hx)
  go_enter Tryd.func79, Tryd.ntmps79
  go_wp2_with (go_at_call 83; go_must (refine (rotated_by x _ hx (by decide) (by decide) _).mono ?_); rintro e w' ⟨rfl, rfl⟩)
  go_ret
  exact ⟨rfl, rfl⟩

end Go.Proofs.YthbcphalokoknaaDoor

/-
  Arrays of integers that a call has made for itself: a block of cells of one kind.
-/

namespace Go.Proofs.YthbcphalokoknaaDoor
set_option linter.unusedSimpArgs false
set_option linter.unusedVariables false
open Go.RowKit

/-- The block g is an array of integers of kind K. -/
def Arr (K : IntKind) (t : TypeId) (w : World) (g : Nat) (cur : List Int) : Prop := w.heap[g]? = some (.cells (cur.map (Value.int K)).toArray t (0, 0))

theorem Arr.lt {K : IntKind} {e : TypeId} {w : World} {g : Nat} {cur : List Int} (h : Arr K e w g cur) : g < w.heap.size := by
  unfold Arr at h
  rcases Nat.lt_or_ge g w.heap.size with h1 | h1
  · exact h1
  · rw [Array.getElem?_eq_none h1] at h; cases h

theorem Arr.stays {K : IntKind} {e : TypeId} {w w' : World} {g : Nat} {cur : List Int} (h : Arr K e w g cur) (hb : Below w.heap.size w w') : Arr K e w' g cur := by
  have := h.lt
  unfold Arr at *
  rw [hb.block g this]; exact h

theorem Arr.drew {K : IntKind} {e : TypeId} {w : World} {g : Nat} {cur : List Int} (h : Arr K e w g cur) : Arr K e w.drew g cur := h

theorem Arr.alloc {K : IntKind} {e : TypeId} {w : World} {g : Nat} {cur : List Int} (h : Arr K e w g cur) (o : Obj) : Arr K e (w.alloc o) g cur := by
  have := h.lt
  unfold Arr at *
  rw [Below.heap_alloc _ _ _ this]; exact h

theorem Arr.new {K : IntKind} {e : TypeId} {w : World} {cur : List Int} {cs : Array Value} (hc : cs = (cur.map (Value.int K)).toArray) : Arr K e (w.alloc (.cells cs e)) w.heap.size cur := by
  subst hc
  unfold Arr World.alloc
  simp

theorem Arr.newAt {K : IntKind} {e : TypeId} {w : World} {g : Nat} {cur : List Int} {cs : Array Value} (hg : g = w.heap.size) (hc : cs = (cur.map (Value.int K)).toArray) : Arr K e (w.alloc (.cells cs e)) g cur := by
  subst hg; exact Arr.new hc

theorem Arr.cell {K : IntKind} {e : TypeId} {w : World} {g : Nat} {cur : List Int} (h : Arr K e w g cur) (k : Nat) (hk : k < cur.length) : w.cell? ⟨g, k, none⟩ = some (.int K (cur.getD k 0)) := by
  unfold Arr at h
  simp [World.cell?, h, hk, List.getD]

theorem Arr.free {K : IntKind} {e : TypeId} {w : World} {g : Nat} {cur : List Int} (h : Arr K e w g cur) (k : Nat) : w.frozen? ⟨g, k, none⟩ = false := by
  unfold Arr at h
  simp [World.frozen?, h]

theorem Arr.set {K : IntKind} {e : TypeId} {w : World} {g : Nat} {cur : List Int} (h : Arr K e w g cur) (k : Nat) (y : Int) : Arr K e (w.setCell ⟨g, k, none⟩ (.int K y)) g (cur.set k y) := by
  have hlt := h.lt
  unfold Arr at *
  simp [World.setCell, Array.getElem?_modify, h, List.map_set]

theorem Arr.other {K : IntKind} {e : TypeId} {w : World} {g g' : Nat} {cur : List Int} (h : Arr K e w g cur) (hne : g ≠ g') (k : Nat) (v : Value) : Arr K e (w.setCell ⟨g', k, none⟩ v) g cur := by
  unfold Arr at *
  rw [Below.heap_setCell _ _ _ _ (by simpa using hne)]; exact h

theorem set_at {α : Type} (l r : List α) (x y : α) (n : Nat) (h : n = l.length) : (l ++ x :: r).set n y = (l ++ [y]) ++ r := by
  subst h; simp

/-- The block g holds just these values. -/
def Blk (t : TypeId) (w : World) (g : Nat) (vs : List Value) : Prop := w.heap[g]? = some (.cells vs.toArray t (0, 0))

theorem Arr.blk {K : IntKind} {e : TypeId} {w : World} {g : Nat} {cur : List Int} (h : Arr K e w g cur) : Blk e w g (cur.map (Value.int K)) := h
theorem Blk.arr {K : IntKind} {e : TypeId} {w : World} {g : Nat} {cur : List Int} (h : Blk e w g (cur.map (Value.int K))) : Arr K e w g cur := h

theorem Blk.lt {e : TypeId} {w : World} {g : Nat} {vs : List Value} (h : Blk e w g vs) : g < w.heap.size := by
  unfold Blk at h
  rcases Nat.lt_or_ge g w.heap.size with h1 | h1
  · exact h1
  · rw [Array.getElem?_eq_none h1] at h; cases h

theorem Blk.stays {e : TypeId} {w w' : World} {g : Nat} {vs : List Value} (h : Blk e w g vs) (hb : Below w.heap.size w w') : Blk e w' g vs := by
  have := h.lt
  unfold Blk at *
  rw [hb.block g this]; exact h

theorem Blk.drew {e : TypeId} {w : World} {g : Nat} {vs : List Value} (h : Blk e w g vs) : Blk e w.drew g vs := h

theorem Blk.newAt {e : TypeId} {w : World} {g : Nat} {vs : List Value} {cs : Array Value} (hg : g = w.heap.size) (hc : cs = vs.toArray) : Blk e (w.alloc (.cells cs e)) g vs := by
  subst hc; subst hg
  unfold Blk World.alloc
  simp

theorem Blk.alloc {e : TypeId} {w : World} {g : Nat} {vs : List Value} (h : Blk e w g vs) (o : Obj) : Blk e (w.alloc o) g vs := by
  have := h.lt
  unfold Blk at *
  rw [Below.heap_alloc _ _ _ this]; exact h

theorem Blk.cell {e : TypeId} {w : World} {g : Nat} {vs : List Value} (h : Blk e w g vs) (k : Nat) : w.cell? ⟨g, k, none⟩ = vs[k]? := by
  unfold Blk at h
  simp [World.cell?, h]

theorem Blk.free {e : TypeId} {w : World} {g : Nat} {vs : List Value} (h : Blk e w g vs) (k : Nat) : w.frozen? ⟨g, k, none⟩ = false := by
  unfold Blk at h
  simp [World.frozen?, h]

/-- All is as it was but the block g, and new blocks. -/
structure But (g : Nat) (w w' : World) : Prop where
  os : w'.os = w.os
  tape : w'.tape = w.tape
  output : w'.output = w.output
  size : w.heap.size ≤ w'.heap.size
  block : ∀ k, k ≠ g → k < w.heap.size → w'.heap[k]? = w.heap[k]?

theorem But.refl (g : Nat) (w : World) : But g w w := ⟨rfl, rfl, rfl, Nat.le_refl _, fun _ _ _ => rfl⟩
theorem But.trans {g : Nat} {a b c : World} (h : But g a b) (k : But g b c) : But g a c :=
  ⟨k.os.trans h.os, k.tape.trans h.tape, k.output.trans h.output, Nat.le_trans h.size k.size, fun i hi hl => (k.block i hi (Nat.lt_of_lt_of_le hl h.size)).trans (h.block i hi hl)⟩
theorem But.drew {g : Nat} {a b : World} (h : But g a b) : But g a b.drew := ⟨h.os, h.tape, h.output, h.size, h.block⟩
theorem But.of_below {g : Nat} {a b : World} (h : Below a.heap.size a b) : But g a b := ⟨h.os, h.tape, h.output, h.size, fun k _ hl => h.block k hl⟩
theorem But.below {g B : Nat} {a b : World} (h : But g a b) (hB : B ≤ g) (hs : B ≤ a.heap.size) : Below B a b := ⟨h.os, h.tape, h.output, h.size, fun k hk => h.block k (by omega) (by omega)⟩
theorem But.setCell {g : Nat} {a b : World} (h : But g a b) (k : Nat) (v : Value) : But g a (b.setCell ⟨g, k, none⟩ v) :=
  h.trans ⟨rfl, rfl, rfl, by simp, fun i hi _ => Below.heap_setCell _ _ _ _ (by simpa using hi)⟩
theorem But.setRow {g : Nat} {a b : World} (h : But g a b) (cs : Array Value) : But g a (b.setRow g cs) :=
  h.trans ⟨rfl, rfl, rfl, by simp [World.setRow], fun i hi _ => by simp only [World.setRow, Array.getElem?_modify, if_neg (Ne.symm hi)]⟩

theorem Blk.but {e : TypeId} {w w' : World} {g g' : Nat} {vs : List Value} (h : Blk e w g vs) (hb : But g' w w') (hne : g ≠ g') : Blk e w' g vs := by
  have := h.lt
  unfold Blk at *
  rw [hb.block g hne this]; exact h

theorem Bs.but {w w' : World} {a : Option Addr} {c : Nat} {xs : List Int} {g : Nat} (h : Bs w a c xs) (hb : But g w w') (hne : xs ≠ [] → ∀ b, a = some b → b.block ≠ g) : Bs w' a c xs := by
  refine ⟨h.rng, h.cap, h.capm, h.nul, ?_⟩
  rcases h.lay with h0 | ⟨b, off, rfl, hc⟩
  · exact .inl h0
  · refine .inr ⟨b, off, rfl, fun i hi => ?_⟩
    have h1 := hc i hi
    have hlt : b < w.heap.size := by
      rcases Nat.lt_or_ge b w.heap.size with h2 | h2
      · exact h2
      · simp [World.cell?, Array.getElem?_eq_none h2] at h1
    rw [World.cell?_of_block (w := w) (hb.block b (hne (fun h => by rw [h] at hi; simp at hi) _ rfl) hlt)]
    exact h1

theorem isAgg_array {P : Program} {t e : TypeId} {n : Nat} (h : P.underlying t = some (.array n e)) (w : World) : (isAgg t).run P w = .ok true w := by
  simp [isAgg, run_underlying h, go_sem]

theorem isAgg_struct {P : Program} {t : TypeId} {fs} (h : P.underlying t = some (.struct fs)) (w : World) : (isAgg t).run P w = .ok true w := by
  simp [isAgg, run_underlying h, go_sem]

theorem sizeOf_run {P : Program} {t : TypeId} {n : Nat} (h : (P.info? t).map (·.size) = some n) (w : World) : (sizeOf t).run P w = .ok n w := by
  obtain ⟨i, hi, h1⟩ := Option.map_eq_some_iff.1 h
  simp [sizeOf, typeInfo, hi, h1, go_sem]

theorem run_load_blk {P : Program} {w : World} {t e : TypeId} {g off n : Nat} {vs us : List Value} (hA : ∀ w, (isAgg t).run P w = .ok true w) (hZ : ∀ w, (sizeOf t).run P w = .ok n w)
    (hb : Blk e w g vs) (hu : us = (vs.drop off).take n) (hl : us.length = n) : (Instr.loadAt t (.pointer (some ⟨g, off, none⟩))).run P w = .ok (.agg us.toArray) w := by
  have h := run_loadCells_list (P := P) w ⟨g, off, none⟩ us (fun j v hj => by
    have hadd : (⟨g, off, none⟩ : Addr).add j = ⟨g, off + j, none⟩ := by unfold Addr.add; split <;> simp_all
    rw [hadd, hb.cell]
    have hjl : j < n := by
      rcases Nat.lt_or_ge j n with h1 | h1
      · exact h1
      · rw [List.getElem?_eq_none (by omega)] at hj; cases hj
    rw [hu, List.getElem?_take_of_lt hjl, List.getElem?_drop] at hj
    exact hj)
  rw [hl] at h
  simp [Instr.loadAt, Instr.sureAddr, loadVar, hA, hZ, h, Sem.run_bind]

theorem run_store_blk {P : Program} {w : World} {t e : TypeId} {g off n : Nat} {vs us : List Value} (hZ : ∀ w, (sizeOf t).run P w = .ok n w)
    (hb : Blk e w g vs) (hl : us.length = n) (hle : off + n ≤ vs.length) (h1 : ∀ v ∈ us, v.oneCell' = true) :
    (Instr.storeAt t (.pointer (some ⟨g, off, none⟩)) (.agg us.toArray)).run P w = .ok () (w.setRow g (vs.take off ++ us ++ vs.drop (off + n)).toArray) := by
  have h := run_storeCells_at (P := P) g off e us 0 vs.toArray w hb (by simp; omega) h1
  simp only [Nat.add_zero, hl] at h
  simp [Instr.storeAt, Instr.sureAddr, storeVar, hZ, hl, h, Sem.run_bind, Value.cells]

theorem wpList_load_blk {P : Program} {w : World} {ops : Array Oper} {rest : List Oper} {o : Oper} {a : Act} {Q : Exit → Act → World → Prop} (hgd : o.guard = none) (x : Operand) (t : TypeId) (ho : o.op = Op.load t x)
    (g off n : Nat) (hx : a.eval x = .pointer (some ⟨g, off, none⟩)) (hA : ∀ w, (isAgg t).run P w = .ok true w) (hZ : ∀ w, (sizeOf t).run P w = .ok n w) {e : TypeId} {vs : List Value} (hb : Blk e w g vs)
    (us : List Value) (hu : us = (vs.drop off).take n) (hl : us.length = n) (h : wpList P ops Q rest (a.put o.dst (.agg us.toArray)) w) : wpList P ops Q (o :: rest) a w := by
  refine wpList_plain hgd fun K hK => ?_
  have hr := run_load_blk (P := P) (w := w) hA hZ hb hu hl
  unfold Oper.wp execOp
  simp only [ho, hx, Sem.run_bind, Sem.run_pure, Result.andThen_ok, hr]
  exact hK _ _ h

theorem wpList_store_blk {P : Program} {w : World} {ops : Array Oper} {rest : List Oper} {o : Oper} {a : Act} {Q : Exit → Act → World → Prop} (hgd : o.guard = none) (x y : Operand) (t : TypeId) (ho : o.op = Op.store t x y)
    (g off n : Nat) (hx : a.eval x = .pointer (some ⟨g, off, none⟩)) (us : List Value) (hy : a.eval y = .agg us.toArray) (hZ : ∀ w, (sizeOf t).run P w = .ok n w) {e : TypeId} {vs : List Value} (hb : Blk e w g vs)
    (hl : us.length = n) (hle : off + n ≤ vs.length) (h1 : ∀ v ∈ us, v.oneCell' = true) (ws : List Value) (hw : ws = vs.take off ++ us ++ vs.drop (off + n))
    (h : ∀ w', Blk e w' g ws → But g w w' → w'.heap.size = w.heap.size → wpList P ops Q rest (a.put o.dst undef) w') : wpList P ops Q (o :: rest) a w := by
  refine wpList_plain hgd fun K hK => ?_
  have hr := run_store_blk (P := P) (w := w) hZ hb hl hle h1
  unfold Oper.wp execOp
  simp only [ho, hx, hy, Sem.run_bind, Sem.run_pure, Result.andThen_ok, hr]
  refine hK _ _ (h _ ?_ ((But.refl g w).setRow _) (by simp [World.setRow]))
  rw [hw]
  exact setRow_heap w g _ _ e _ hb

theorem int_oneCell (K : IntKind) (l : List Int) : ∀ v ∈ l.map (Value.int K), v.oneCell' = true := by
  intro v hv
  obtain ⟨x, _, rfl⟩ := List.mem_map.1 hv
  rfl

/-- A result that lives in a block. -/
theorem bodyPost_ret_blk {P : Program} {fn : Func} {R : Ending → World → Prop} {a : Act} {w : World} {p : Tmp} {t e : TypeId} {g n : Nat} {us : List Value} (hf : fn.results = #[.cell p t]) (hd : a.defers = [])
    (hp : a.tmps.getD p undef = .pointer (some ⟨g, 0, none⟩)) (hA : ∀ w, (isAgg t).run P w = .ok true w) (hZ : ∀ w, (sizeOf t).run P w = .ok n w) (hb : Blk e w g us) (hl : us.length = n)
    (hR : R (.returned (.agg us.toArray)) w) : bodyPost P fn R .ret a w := by
  refine bodyPost_ret_by (v := .agg us.toArray) ?_ hd hR
  have hr := run_load_blk (P := P) (w := w) (off := 0) hA hZ hb (us := us) (by rw [List.drop_zero, List.take_of_length_le (by omega)]) hl
  simp only [Instr.loadAt, Instr.sureAddr, Sem.run_bind, Sem.run_pure, Result.andThen_ok] at hr
  rw [Array.getD_eq_getD_getElem?] at hp
  simp [results, hf, hp, asAddr, Sem.run_bind, hr]

/-- Integers that lie in the block g, from its beginning on. -/
def Tab (K : IntKind) (w : World) (g : Nat) (zs : List Int) : Prop := ∀ i, i < zs.length → w.cell? ⟨g, i, none⟩ = some (.int K (zs.getD i 0))

theorem Tab.lt {K : IntKind} {w : World} {g : Nat} {zs : List Int} (h : Tab K w g zs) (hp : 0 < zs.length) : g < w.heap.size := by
  have h1 := h 0 hp
  rcases Nat.lt_or_ge g w.heap.size with h2 | h2
  · exact h2
  · simp [World.cell?, Array.getElem?_eq_none h2] at h1
theorem Tab.but {K : IntKind} {w w' : World} {g g' : Nat} {zs : List Int} (h : Tab K w g zs) (hb : But g' w w') (hne : g ≠ g') : Tab K w' g zs := fun i hi => by
  have hlt := h.lt (Nat.lt_of_le_of_lt (Nat.zero_le _) hi)
  rw [World.cell?_of_block (w := w) (hb.block g hne hlt)]
  exact h i hi
theorem Tab.stays {K : IntKind} {w w' : World} {g : Nat} {zs : List Int} (h : Tab K w g zs) (hb : Below w.heap.size w w') : Tab K w' g zs := fun i hi => by
  have hlt := h.lt (Nat.lt_of_le_of_lt (Nat.zero_le _) hi)
  rw [World.cell?_of_block (w := w) (hb.block g hlt)]
  exact h i hi
theorem Tab.below {K : IntKind} {w w' : World} {g B : Nat} {zs : List Int} (h : Tab K w g zs) (hb : Below B w w') (hg : g < B) : Tab K w' g zs := fun i hi => by
  rw [World.cell?_of_block (w := w) (hb.block g hg)]
  exact h i hi

theorem run_load_tab {P : Program} {w : World} {t : TypeId} {K : IntKind} {g n : Nat} {zs : List Int} (hA : ∀ w, (isAgg t).run P w = .ok true w) (hZ : ∀ w, (sizeOf t).run P w = .ok n w)
    (hb : Tab K w g zs) (hl : zs.length = n) : (Instr.loadAt t (.pointer (some ⟨g, 0, none⟩))).run P w = .ok (.agg (zs.map (Value.int K)).toArray) w := by
  have h := run_loadCells_list (P := P) w ⟨g, 0, none⟩ (zs.map (Value.int K)) (fun j v hj => by
    have hadd : (⟨g, 0, none⟩ : Addr).add j = ⟨g, j, none⟩ := by unfold Addr.add; split <;> simp_all
    rw [hadd]
    have hjl : j < zs.length := by
      rcases Nat.lt_or_ge j zs.length with h1 | h1
      · exact h1
      · rw [List.getElem?_eq_none (by simpa using h1)] at hj; cases hj
    rw [hb j hjl]
    simpa [List.getD, hjl] using hj)
  rw [List.length_map, hl] at h
  simp [Instr.loadAt, Instr.sureAddr, loadVar, hA, hZ, h, Sem.run_bind]

/-- An element of an array that is a value. -/
theorem index_agg {P : Program} {t e : TypeId} {n : Nat} {cs : Array Value} {K : IntKind} {j : Nat} {x : Value} (ht : P.underlying t = some (.array n e)) (he : P.underlying e = some (.int K)) (hs : (P.info? e).map (·.size) = some 1) (hj : j < n) (hx : cs[j]? = some x) (K' : IntKind) (w : World) :
    (Instr.index t (.agg cs) (.int K' (j : Int))).run P w = .ok x w := by
  have hz := sizeOf_run hs w
  have hb : (0 : Int) ≤ (j : Int) ∧ (j : Int) < (n : Int) := by omega
  simp [Instr.index, asIntOf, run_underlying ht, hz, hb, part, isAgg, run_underlying he, hx, Sem.run_bind]
  omega

/-- A slice expression b[k:] stays in its block. -/
theorem Bs.fromIn {P : Program} (u0 : World) (a : Option Addr) (c : Nat) (xs : List Int) (t e : TypeId) (ht : P.underlying t = some (.slice e)) (hs : (P.info? e).map (·.size) = some 1) (he : P.elem t = e) (k : Nat) (hk : k ≤ xs.length) (hc : xs.length ≤ c) :
    ∃ a' c', (∀ (w' : World) (K : IntKind), (Instr.slice t (.slice a xs.length c) (some (.int K (k : Int))) none none).run P w' = .ok (.slice a' (xs.length - k) c') w') ∧ (∀ u, Bs u a c xs → Bs u a' c' (xs.drop k)) ∧
      ∀ x', a' = some x' → ∃ x, a = some x ∧ x'.block = x.block := by
  have hz : (sizeOf e).run P u0 = .ok 1 u0 := by
    obtain ⟨i, hi, h1⟩ := Option.map_eq_some_iff.1 hs
    simp [sizeOf, typeInfo, hi, h1, go_sem]
  obtain ⟨a', c', hr, hB⟩ := Bs.fromAll (P := P) a c xs t e ht hs he k hk
  refine ⟨a', c', hr, hB, fun x' hx' => ?_⟩
  have h1 := hr u0 .i64
  rw [run_slice_l u0 t a xs.length c (by rw [he]; exact ht) .i64 k (by omega) (by omega), he, hz] at h1
  simp [Result.andThen, sliced] at h1
  obtain ⟨h2, h3⟩ := h1
  rw [hx'] at h2
  split at h2
  · exact ⟨x', h2, rfl⟩
  · obtain ⟨x, hx, rfl⟩ := Option.map_eq_some_iff.1 h2
    refine ⟨x, hx, ?_⟩
    unfold Addr.add
    split <;> rfl

theorem wpList_copy_blk {P : Program} {w : World} {ops : Array Oper} {rest : List Oper} {o : Oper} {a : Act} {Q : Exit → Act → World → Prop} (hgd : o.guard = none) (d s : Operand) (dT sT : TypeId)
    (ho : o.op = .call { callee := .builtin .copy, args := #[d, s], argTypes := #[dT, sT] }) (elem : TypeId) (hu : P.underlying dT = some (.slice elem)) (hsz : (P.info? elem).map (·.size) = some 1)
    (g off dLen dCap : Nat) (sp : Option Addr) (sLen sCap : Nat) (hd : a.eval d = .slice (some ⟨g, off, none⟩) dLen dCap) (hs : a.eval s = .slice sp sLen sCap)
    {t : TypeId} {cur : List Value} (hg : Blk t w g cur) (ys : List Int) (n : Nat) (hB : Bs w sp sCap ys) (hpos : 0 < n) (hn : n = Nat.min sLen dLen) (hle : n ≤ ys.length) (hfit : off + n ≤ cur.length)
    (h : ∀ w', Blk t w' g (splice cur off ((ys.take n).map (Value.int .u8))) → But g w w' → w'.heap.size = w.heap.size → wpList P ops Q rest (a.put o.dst (goInt n)) w') :
    wpList P ops Q (o :: rest) a w := by
  have hlen : ((ys.take n).map (Value.int .u8)).length = n := by simp; omega
  obtain ⟨b, boff, rfl, hc⟩ := hB.cell (by omega)
  have hsrc := Bs.srcCells hc
  refine wpList_copy_own hgd d s dT sT ho elem hu hsz g off dLen dCap ⟨b, boff, none⟩ sLen sCap hd hs cur.toArray t hg ((ys.take n).map (Value.int .u8)) (by rw [hlen]; exact hn) ?_ (by rw [hlen]; simpa using hfit) (int_oneCell _ _) ?_
  · intro j v hj
    refine hsrc j v ?_
    have hjl : j < n := by
      rcases Nat.lt_or_ge j n with h1 | h1
      · exact h1
      · rw [List.getElem?_eq_none (by omega)] at hj; cases hj
    rw [List.map_take, List.getElem?_take_of_lt hjl] at hj
    exact hj
  · rw [hlen]
    refine h _ ?_ ((But.refl g w).setRow _) (by simp [World.setRow])
    unfold Blk splice
    rw [hlen]
    simpa using setRow_heap w g _ _ t _ hg
end Go.Proofs.YthbcphalokoknaaDoor

/-
  Package sha: the words of a block.
-/

namespace Go.Proofs.YthbcphalokoknaaDoor
set_option linter.unusedSimpArgs false
set_option linter.unusedVariables false
open Go.RowKit

/-- A number of 4 bytes. -/
def four (x0 x1 x2 x3 : Nat) : Nat := ((x0 * 16777216 ||| x1 * 65536) ||| x2 * 256) ||| x3

def byteAt (bs : List Int) (i : Nat) : Nat := (bs.getD i 0).toNat

def word (bs : List Int) (t : Nat) : Nat := four (byteAt bs (4 * t)) (byteAt bs (4 * t + 1)) (byteAt bs (4 * t + 2)) (byteAt bs (4 * t + 3))

theorem byteAt_eq (bs : List Int) (hb : ∀ x ∈ bs, 0 ≤ x ∧ x ≤ 255) (i : Nat) : bs.getD i 0 = (byteAt bs i : Int) ∧ byteAt bs i < 256 := by
  unfold byteAt
  rcases Nat.lt_or_ge i bs.length with h | h
  · have := hb (bs[i]) (List.getElem_mem h)
    simp [List.getD, h]; omega
  · simp [List.getD, List.getElem?_eq_none h]

theorem or_lt' (a b : Nat) (ha : a < 4294967296) (hb : b < 4294967296) : a ||| b < 4294967296 := Nat.or_lt_two_pow (n := 32) ha hb

def add32 (a b : Nat) : Nat := (a + b) % 4294967296
theorem add32_lt (a b : Nat) : add32 a b < 4294967296 := Nat.mod_lt _ (by decide)
theorem wrap_add32 (a b : Nat) : IntKind.u32.wrap ((a : Int) + (b : Int)) = (add32 a b : Nat) := by rw [IntKind.wrap_u32]; unfold add32; omega

def nextWord (ws : List Nat) (n : Nat) : Nat := add32 (add32 (add32 (s1 (ws.getD (n - 2) 0)) (ws.getD (n - 7) 0)) (s0 (ws.getD (n - 15) 0))) (ws.getD (n - 16) 0)

def grown (bs : List Int) (l : List Nat) (n : Nat) : List Nat := l ++ [if n < 16 then word bs n else nextWord l n]
/-- The first n words of a block. -/
def grow (bs : List Int) : Nat → List Nat
  | 0 => []
  | n + 1 => grown bs (grow bs n) n

def ints (l : List Nat) : List Int := l.map fun (n : Nat) => (n : Int)

theorem ints_length (l : List Nat) : (ints l).length = l.length := by simp [ints]
theorem ints_append (l m : List Nat) : ints (l ++ m) = ints l ++ ints m := by simp [ints]
theorem ints_getD (l : List Nat) (i : Nat) : (ints l).getD i 0 = ((l.getD i 0 : Nat) : Int) := by
  unfold ints
  rcases Nat.lt_or_ge i l.length with h | h
  · simp [List.getD, h]
  · simp [List.getD, List.getElem?_eq_none h]

theorem grow_length (bs : List Int) (n : Nat) : (grow bs n).length = n := by
  induction n with
  | zero => rfl
  | succ n ih => simp [grow, grown, ih]

theorem word_lt (bs : List Int) (hb : ∀ x ∈ bs, 0 ≤ x ∧ x ≤ 255) (t : Nat) : word bs t < 4294967296 := by
  have h0 := (byteAt_eq bs hb (4 * t)).2
  have h1 := (byteAt_eq bs hb (4 * t + 1)).2
  have h2 := (byteAt_eq bs hb (4 * t + 2)).2
  have h3 := (byteAt_eq bs hb (4 * t + 3)).2
  unfold word four
  exact or_lt' _ _ (or_lt' _ _ (or_lt' _ _ (by omega) (by omega)) (by omega)) (by omega)

theorem getD_lt {l : List Nat} (h : ∀ x ∈ l, x < 4294967296) (i : Nat) : l.getD i 0 < 4294967296 := by
  rcases Nat.lt_or_ge i l.length with h1 | h1
  · simpa [List.getD, h1] using h _ (List.getElem_mem h1)
  · simp [List.getD, List.getElem?_eq_none h1]

theorem grow_lt (bs : List Int) (hb : ∀ x ∈ bs, 0 ≤ x ∧ x ≤ 255) (n : Nat) : ∀ x ∈ grow bs n, x < 4294967296 := by
  induction n with
  | zero => simp [grow]
  | succ n ih =>
    intro x hx
    simp only [grow, grown, List.mem_append, List.mem_singleton] at hx
    rcases hx with hx | hx
    · exact ih x hx
    · subst hx
      split
      · exact word_lt bs hb n
      · exact add32_lt _ _

set_option maxRecDepth 100000 in
set_option maxHeartbeats 2000000 in
theorem words_run (bs : List Int) (hl : bs.length = 64) (hb : ∀ x ∈ bs, 0 ≤ x ∧ x ≤ 255) (w : World) :
    Calls Tryd.prog 78 #[.agg (bs.map (Value.int .u8)).toArray] w fun e w' => e = .returned (.agg ((ints (grow bs 64)).map (Value.int .u32)).toArray) ∧ Below w.heap.size w w' := by
  obtain ⟨B, hB⟩ : ∃ B, B = w.heap.size := ⟨_, rfl⟩
  go_enter Tryd.func78, Tryd.ntmps78
  go_wp2
  go_loopw [6] (fun i wr => ∃ k : Nat, k ≤ 16 ∧ i = .int .i64 k ∧ Below w.heap.size w wr ∧ Arr .u8 125 wr w.heap.size bs ∧ Arr .u32 130 wr (w.heap.size + 1) (List.replicate 64 0) ∧
      Arr .u32 130 wr (w.heap.size + 1 + 1) (ints (grow bs k) ++ List.replicate (64 - k) 0)) (fun i _ => 16 - (intOf i).toNat)
  case atStart =>
    refine ⟨0, by omega, rfl, (((Below.refl _ _).alloc (Nat.le_refl _) _).alloc (by simp) _).alloc (by simp; omega) _, ((Arr.new rfl).alloc _).alloc _, ?_, ?_⟩
    · refine Arr.alloc (Arr.newAt (cur := List.replicate 64 0) ?_ ?_) _
      · simp
      · rfl
    · refine Arr.newAt ?_ ?_
      · simp
      · rfl
  case round =>
    rename_i hrel
    obtain ⟨k, hk, rfl, hbel, ha, hr, hm⟩ := hrel
    by_cases hlt : k < 16
    · obtain ⟨x0, hx0⟩ : ∃ x, x = byteAt bs (4 * k) := ⟨_, rfl⟩
      obtain ⟨x1, hx1⟩ : ∃ x, x = byteAt bs (4 * k + 1) := ⟨_, rfl⟩
      obtain ⟨x2, hx2⟩ : ∃ x, x = byteAt bs (4 * k + 2) := ⟨_, rfl⟩
      obtain ⟨x3, hx3⟩ : ∃ x, x = byteAt bs (4 * k + 3) := ⟨_, rfl⟩
      obtain ⟨p0, hp0⟩ : ∃ p, p = 4 * k := ⟨_, rfl⟩
      obtain ⟨p1, hp1⟩ : ∃ p, p = 4 * k + 1 := ⟨_, rfl⟩
      obtain ⟨p2, hp2⟩ : ∃ p, p = 4 * k + 2 := ⟨_, rfl⟩
      obtain ⟨p3, hp3⟩ : ∃ p, p = 4 * k + 3 := ⟨_, rfl⟩
      have c0 := ha.cell p0 (by omega)
      have c1 := ha.cell p1 (by omega)
      have c2 := ha.cell p2 (by omega)
      have c3 := ha.cell p3 (by omega)
      rw [(byteAt_eq bs hb _).1, hp0, ← hx0, ← hp0] at c0
      rw [(byteAt_eq bs hb _).1, hp1, ← hx1, ← hp1] at c1
      rw [(byteAt_eq bs hb _).1, hp2, ← hx2, ← hp2] at c2
      rw [(byteAt_eq bs hb _).1, hp3, ← hx3, ← hp3] at c3
      have e0 : IntKind.i64.wrap (4 * (k : Int)) = (p0 : Int) := by rw [IntKind.wrap_i64]; omega
      have e1 : IntKind.i64.wrap ((p0 : Int) + 1) = (p1 : Int) := by rw [IntKind.wrap_i64]; omega
      have e2 : IntKind.i64.wrap ((p0 : Int) + 2) = (p2 : Int) := by rw [IntKind.wrap_i64]; omega
      have e3 : IntKind.i64.wrap ((p0 : Int) + 3) = (p3 : Int) := by rw [IntKind.wrap_i64]; omega
      have b0 : (p0 : Int) < 64 := by omega
      have b1 : (p1 : Int) < 64 := by omega
      have b2 : (p2 : Int) < 64 := by omega
      have b3 : (p3 : Int) < 64 := by omega
      have bk : (k : Int) < 64 := by omega
      have l0 : x0 < 256 := hx0 ▸ (byteAt_eq bs hb _).2
      have l1 : x1 < 256 := hx1 ▸ (byteAt_eq bs hb _).2
      have l2 : x2 < 256 := hx2 ▸ (byteAt_eq bs hb _).2
      have l3 : x3 < 256 := hx3 ▸ (byteAt_eq bs hb _).2
      have fz := hm.free k
      obtain ⟨z, hz⟩ : ∃ z, wr.cell? ⟨w.heap.size + 1 + 1, k, none⟩ = some (.int .u32 z) := ⟨_, hm.cell k (by simp [ints_length, grow_length]; omega)⟩
      obtain ⟨q0, hq0⟩ : ∃ q, q = x0 * 16777216 := ⟨_, rfl⟩
      obtain ⟨q1, hq1⟩ : ∃ q, q = x1 * 65536 := ⟨_, rfl⟩
      obtain ⟨q2, hq2⟩ : ∃ q, q = x2 * 256 := ⟨_, rfl⟩
      obtain ⟨r1, hr1⟩ : ∃ q, q = q0 ||| q1 := ⟨_, rfl⟩
      obtain ⟨r2, hr2⟩ : ∃ q, q = r1 ||| q2 := ⟨_, rfl⟩
      obtain ⟨r3, hr3⟩ : ∃ q, q = r2 ||| x3 := ⟨_, rfl⟩
      have f0 : IntKind.u32.wrap (x0 : Int) = x0 := by rw [IntKind.wrap_u32]; omega
      have f1 : IntKind.u32.wrap (x1 : Int) = x1 := by rw [IntKind.wrap_u32]; omega
      have f2 : IntKind.u32.wrap (x2 : Int) = x2 := by rw [IntKind.wrap_u32]; omega
      have f3 : IntKind.u32.wrap (x3 : Int) = x3 := by rw [IntKind.wrap_u32]; omega
      have f4 : IntKind.u32.wrap ((x0 : Int) * 16777216) = q0 := by rw [IntKind.wrap_u32]; omega
      have f5 : IntKind.u32.wrap ((x1 : Int) * 65536) = q1 := by rw [IntKind.wrap_u32]; omega
      have f6 : IntKind.u32.wrap ((x2 : Int) * 256) = q2 := by rw [IntKind.wrap_u32]; omega
      have m1 : r1 < 4294967296 := hr1 ▸ or_lt' _ _ (by omega) (by omega)
      have m2 : r2 < 4294967296 := hr2 ▸ or_lt' _ _ (by omega) (by omega)
      have o1 : bits .or .u32 (q0 : Int) (q1 : Int) = (r1 : Int) := by rw [u32_or_nat _ _ (by omega) (by omega), hr1]
      have o2 : bits .or .u32 (r1 : Int) (q2 : Int) = (r2 : Int) := by rw [u32_or_nat _ _ m1 (by omega), hr2]
      have o3 : bits .or .u32 (r2 : Int) (x3 : Int) = (r3 : Int) := by rw [u32_or_nat _ _ m2 (by omega), hr3]
      have HX : Hid (word bs k = r3) := by rw [hr3, hr2, hr1, hq0, hq1, hq2, hx0, hx1, hx2, hx3]; rfl
      clear hx0 hx1 hx2 hx3 hp0 hp1 hp2 hp3 hq0 hq1 hq2 hr1 hr2 hr3
      go_wp2
      go_still_tail 31, (by kernel_rfl)
      go_wp2
      go_roundw
      case rel =>
        refine ⟨k + 1, by omega, by go_num, (hbel.setCell (by simp; omega) _).drew, (ha.other (by omega) _ _).drew, (hr.other (by omega) _ _).drew, ?_⟩
        have h1 := hm.set k (r3 : Int)
        rw [show 64 - k = (64 - (k + 1)) + 1 by omega, List.replicate_succ, set_at _ _ _ _ _ (by simp [ints_length, grow_length])] at h1
        have h2 : grow bs (k + 1) = grow bs k ++ [r3] := by simp only [grow, grown, if_pos hlt, HX.out]
        rw [h2, ints_append]
        exact h1.drew
      case measure => simp [intOf]; omega
    · have hm16 : Arr .u32 130 wr (w.heap.size + 1 + 1) (ints (grow bs 16) ++ List.replicate (64 - 16) 0) := by
        have e : k = 16 := by omega
        rw [e] at hm
        exact hm
      go_wp2
      go_loopw [5] (fun i wr => ∃ k : Nat, 16 ≤ k ∧ k ≤ 64 ∧ i = .int .i64 k ∧ Below w.heap.size w wr ∧ Arr .u32 130 wr (w.heap.size + 1) (List.replicate 64 0) ∧
          Arr .u32 130 wr (w.heap.size + 1 + 1) (ints (grow bs k) ++ List.replicate (64 - k) 0)) (fun i _ => 64 - (intOf i).toNat)
      case atStart => exact ⟨16, by omega, by omega, rfl, hbel, hr, hm16⟩
      case round =>
        clear hbel ha hr hm hm16
        rename_i hrel
        obtain ⟨k, hk16, hk, rfl, hbel, hr, hm⟩ := hrel
        by_cases hlt : k < 64
        · obtain ⟨i2, hi2⟩ : ∃ i, i = k - 2 := ⟨_, rfl⟩
          obtain ⟨i7, hi7⟩ : ∃ i, i = k - 7 := ⟨_, rfl⟩
          obtain ⟨i15, hi15⟩ : ∃ i, i = k - 15 := ⟨_, rfl⟩
          obtain ⟨i16, hi16⟩ : ∃ i, i = k - 16 := ⟨_, rfl⟩
          obtain ⟨a2, ha2⟩ : ∃ a, a = (grow bs k).getD (k - 2) 0 := ⟨_, rfl⟩
          obtain ⟨a7, ha7⟩ : ∃ a, a = (grow bs k).getD (k - 7) 0 := ⟨_, rfl⟩
          obtain ⟨a15, ha15⟩ : ∃ a, a = (grow bs k).getD (k - 15) 0 := ⟨_, rfl⟩
          obtain ⟨a16, ha16⟩ : ∃ a, a = (grow bs k).getD (k - 16) 0 := ⟨_, rfl⟩
          have hcell : ∀ i, i < k → wr.cell? ⟨w.heap.size + 1 + 1, i, none⟩ = some (.int .u32 (((grow bs k).getD i 0 : Nat) : Int)) := fun i hi => by
            rw [hm.cell i (by simp [ints_length, grow_length]; omega), ← ints_getD]
            simp [List.getD, List.getElem?_append, ints_length, grow_length, hi]
          have c2 := hcell i2 (by omega)
          have c7 := hcell i7 (by omega)
          have c15 := hcell i15 (by omega)
          have c16 := hcell i16 (by omega)
          rw [hi2, ← ha2, ← hi2] at c2
          rw [hi7, ← ha7, ← hi7] at c7
          rw [hi15, ← ha15, ← hi15] at c15
          rw [hi16, ← ha16, ← hi16] at c16
          have e2 : IntKind.i64.wrap ((k : Int) - 2) = (i2 : Int) := by rw [IntKind.wrap_i64]; omega
          have e7 : IntKind.i64.wrap ((k : Int) - 7) = (i7 : Int) := by rw [IntKind.wrap_i64]; omega
          have e15 : IntKind.i64.wrap ((k : Int) - 15) = (i15 : Int) := by rw [IntKind.wrap_i64]; omega
          have e16 : IntKind.i64.wrap ((k : Int) - 16) = (i16 : Int) := by rw [IntKind.wrap_i64]; omega
          have b2 : (i2 : Int) < 64 := by omega
          have b7 : (i7 : Int) < 64 := by omega
          have b15 : (i15 : Int) < 64 := by omega
          have b16 : (i16 : Int) < 64 := by omega
          have bk : (k : Int) < 64 := by omega
          have l2 : a2 < 4294967296 := ha2 ▸ getD_lt (grow_lt bs hb k) _
          have l15 : a15 < 4294967296 := ha15 ▸ getD_lt (grow_lt bs hb k) _
          have fz := hm.free k
          obtain ⟨z, hz⟩ : ∃ z, wr.cell? ⟨w.heap.size + 1 + 1, k, none⟩ = some (.int .u32 z) := ⟨_, hm.cell k (by simp [ints_length, grow_length]; omega)⟩
          obtain ⟨t1, ht1⟩ : ∃ t, t = s1 a2 := ⟨_, rfl⟩
          obtain ⟨t2, ht2⟩ : ∃ t, t = s0 a15 := ⟨_, rfl⟩
          have d1 : ∀ w, Calls Tryd.prog 81 #[.int .u32 (a2 : Int)] w fun e w' => e = .returned (.int .u32 (t1 : Int)) ∧ w' = w := fun w => ht1 ▸ small1_run a2 l2 w
          have d2 : ∀ w, Calls Tryd.prog 82 #[.int .u32 (a15 : Int)] w fun e w' => e = .returned (.int .u32 (t2 : Int)) ∧ w' = w := fun w => ht2 ▸ small0_run a15 l15 w
          obtain ⟨r1, hr1⟩ : ∃ r, r = add32 t1 a7 := ⟨_, rfl⟩
          obtain ⟨r2, hr2⟩ : ∃ r, r = add32 r1 t2 := ⟨_, rfl⟩
          obtain ⟨r3, hr3⟩ : ∃ r, r = add32 r2 a16 := ⟨_, rfl⟩
          have o1 : IntKind.u32.wrap ((t1 : Int) + (a7 : Int)) = (r1 : Int) := by rw [hr1]; exact wrap_add32 _ _
          have o2 : IntKind.u32.wrap ((r1 : Int) + (t2 : Int)) = (r2 : Int) := by rw [hr2]; exact wrap_add32 _ _
          have o3 : IntKind.u32.wrap ((r2 : Int) + (a16 : Int)) = (r3 : Int) := by rw [hr3]; exact wrap_add32 _ _
          have HX : Hid (grow bs (k + 1) = grow bs k ++ [r3]) := by
            have hn : ¬ k < 16 := by omega
            unfold Hid
            simp only [grow, grown, if_neg hn, nextWord, hr3, hr2, hr1, ht1, ht2, ha2, ha7, ha15, ha16]
          clear hi2 hi7 hi15 hi16 ha2 ha7 ha15 ha16 hcell ht1 ht2 hr1 hr2 hr3
          go_wp2
          refine wp_region_still_tail 23 (by kernel_rfl) (by kernel_rfl) ?_
          simp only [List.take_succ_cons, List.take_zero, List.drop_succ_cons, List.drop_zero]
          repeat (first | still_step | still_call (d1 _) | still_call (d2 _))
          try refine wpStill_nil ?_
          go_wp2
          go_roundw
          case rel =>
            refine ⟨k + 1, by omega, by omega, by go_num, (hbel.setCell (by simp; omega) _).drew, (hr.other (by omega) _ _).drew, ?_⟩
            have h1 := hm.set k (r3 : Int)
            rw [show 64 - k = (64 - (k + 1)) + 1 by omega, List.replicate_succ, set_at _ _ _ _ _ (by simp [ints_length, grow_length])] at h1
            rw [HX.out, ints_append]
            exact h1.drew
          case measure => simp [intOf]; omega
        · have hm64 : Arr .u32 130 wr (w.heap.size + 1 + 1) (ints (grow bs 64)) := by
            have e : k = 64 := by omega
            rw [e] at hm
            simpa using hm
          have hlen : ((ints (grow bs 64)).map (Value.int .u32)).length = 64 := by simp [ints_length, grow_length]
          obtain ⟨us, hus⟩ : ∃ us, us = (ints (grow bs 64)).map (Value.int .u32) := ⟨_, rfl⟩
          have h1 : ∀ v ∈ us, v.oneCell' = true := hus ▸ int_oneCell _ _
          have hlen' : us.length = 64 := hus ▸ hlen
          have hmb : Blk 130 wr (w.heap.size + 1 + 1) us := hus ▸ hm64.blk
          have hrb := hr.blk
          have hu0 : us = (us.drop 0).take 64 := by rw [List.drop_zero, List.take_of_length_le (by omega)]
          have hu1 : us = ((List.replicate 64 (0 : Int)).map (Value.int .u32)).take 0 ++ us ++ ((List.replicate 64 (0 : Int)).map (Value.int .u32)).drop (0 + 64) := by
            rw [List.take_zero, List.nil_append, List.drop_eq_nil_of_le (by simp), List.append_nil]
          have HU : Hid (us = (ints (grow bs 64)).map (Value.int .u32)) := hus
          clear hus hm64 hm hr hlen
          go_wp2_with (first
            | (refine wpList_load_blk (by rfl) (.tmp 3) 130 (by rfl) (w.heap.size + 1 + 1) 0 64 (by rfl) (isAgg_array Tryd.underlying130) (sizeOf_run (by kernel_rfl)) hmb us hu0 hlen' ?_)
            | (refine wpList_store_blk (by rfl) (.tmp 2) (.tmp 68) 130 (by rfl) (w.heap.size + 1) 0 64 (by rfl) us (by rfl) (sizeOf_run (by kernel_rfl)) hrb hlen' (by simp) h1 us hu1 ?_
               intro w2 hb2 hbut hsz))
          go_wp2
          refine bodyPost_ret_blk (by rfl) (by rfl) (by rfl) (isAgg_array Tryd.underlying130) (sizeOf_run (by kernel_rfl)) hb2 hlen' ?_
          exact ⟨by rw [HU.out], hbel.trans (hbut.below (by omega) (by have := hbel.size; omega))⟩
end Go.Proofs.YthbcphalokoknaaDoor
