/-
  Package space: the small functions.
-/
import Derived.Test.YtjfoidilecognaaDoorG02
import Derived.Test.YtjfoidilecognaaDoorG04
import Derived.Test.YtjfoidilecognaaDoorRows
import Derived.Test.YtjfoidilecognaaDoorG03
import Derived.Laws.BitsAllLaws
import Derived.Laws.ShiftsVarLaws
import Derived.Deep.QuietTactic
import Derived.BigQuiet
import Derived.Laws.Bits128
namespace Go.Proofs.YtjfoidilecognaaDoor
set_option linter.unusedSimpArgs false
set_option linter.unusedVariables false
set_option maxRecDepth 100000
open Go.RowKit

theorem wrap_nat (n : Nat) (h : n < 18446744073709551616) : IntKind.u64.wrap (n : Int) = (n : Int) := by
  rw [show IntKind.u64.wrap (n : Int) = (n : Int) % 18446744073709551616 by simp [IntKind.wrap, IntKind.bits, IntKind.signed]]; omega

theorem ones_run (x : Nat) (hx : x < 18446744073709551616) (w : World) : Calls Tryd.prog 94 #[.int .u64 (x : Int)] w fun e w' => e = .returned (.int .i64 ((pop 64 x : Nat) : Int)) ∧ w' = w := by
  obtain ⟨y1, e1, b1, v1⟩ : ∃ y1 : Nat, IntKind.u64.wrap (bits .and .u64 ((x : Int) / 2) 6148914691236517205 + bits .and .u64 (x : Int) 6148914691236517205) = (y1 : Int) ∧ y1 < 12297829382473034411 ∧ Hid (p1 m0 x = y1) := by
    have a1 := Nat.and_le_right (n := x / 2) (m := m0)
    have a2 := Nat.and_le_right (n := x) (m := m0)
    refine ⟨p1 m0 x, ?_, by unfold p1 m0 at *; omega, rfl⟩
    have f1 := u64_and_nat (x / 2) m0 (by omega) (by decide)
    have f2 := u64_and_nat x m0 hx (by decide)
    rw [Int.natCast_ediv] at f1
    unfold m0 at f1 f2 a1 a2
    rw [show ((2 : Nat) : Int) = 2 from rfl] at f1
    rw [show ((6148914691236517205 : Nat) : Int) = 6148914691236517205 from rfl] at f1 f2
    rw [f1, f2, ← Int.natCast_add, wrap_nat _ (by omega)]
    rfl
  obtain ⟨y2, e2, b2, v2⟩ : ∃ y2 : Nat, IntKind.u64.wrap (bits .and .u64 ((y1 : Int) / 4) 3689348814741910323 + bits .and .u64 (y1 : Int) 3689348814741910323) = (y2 : Int) ∧ y2 < 7378697629483820647 ∧ Hid (p2 m1 y1 = y2) := by
    have a1 := Nat.and_le_right (n := y1 / 4) (m := m1)
    have a2 := Nat.and_le_right (n := y1) (m := m1)
    refine ⟨p2 m1 y1, ?_, by unfold p2 m1 at *; omega, rfl⟩
    have f1 := u64_and_nat (y1 / 4) m1 (by omega) (by decide)
    have f2 := u64_and_nat y1 m1 (by omega) (by decide)
    rw [Int.natCast_ediv] at f1
    unfold m1 at f1 f2 a1 a2
    rw [show ((4 : Nat) : Int) = 4 from rfl] at f1
    rw [show ((3689348814741910323 : Nat) : Int) = 3689348814741910323 from rfl] at f1 f2
    rw [f1, f2, ← Int.natCast_add, wrap_nat _ (by omega)]
    rfl
  obtain ⟨y3, e3, b3, v3⟩ : ∃ y3 : Nat, bits .and .u64 ((y2 : Int) / 16 + (y2 : Int)) 1085102592571150095 = (y3 : Int) ∧ y3 < 1085102592571150096 ∧ Hid ((y2 / 16 + y2) &&& m2 = y3) := by
    have a1 := Nat.and_le_right (n := y2 / 16 + y2) (m := m2)
    refine ⟨(y2 / 16 + y2) &&& m2, ?_, by unfold m2 at *; omega, rfl⟩
    have f1 := u64_and_nat (y2 / 16 + y2) m2 (by omega) (by decide)
    exact f1
  obtain ⟨y4, e4, b4, v4⟩ : ∃ y4 : Nat, IntKind.u64.wrap ((y3 : Int) + (y3 : Int) / 256) = (y4 : Int) ∧ y4 < 1085102592571150096 * 2 ∧ Hid (y3 + y3 / 256 = y4) := by
    refine ⟨y3 + y3 / 256, ?_, by omega, rfl⟩
    exact wrap_nat (y3 + y3 / 256) (by omega)
  obtain ⟨y5, e5, b5, v5⟩ : ∃ y5 : Nat, IntKind.u64.wrap ((y4 : Int) + (y4 : Int) / 65536) = (y5 : Int) ∧ y5 < 1085102592571150096 * 3 ∧ Hid (y4 + y4 / 65536 = y5) := by
    refine ⟨y4 + y4 / 65536, ?_, by omega, rfl⟩
    exact wrap_nat (y4 + y4 / 65536) (by omega)
  obtain ⟨y6, e6, b6, v6⟩ : ∃ y6 : Nat, IntKind.u64.wrap ((y5 : Int) + (y5 : Int) / 4294967296) = (y6 : Int) ∧ y6 < 1085102592571150096 * 4 ∧ Hid (y5 + y5 / 4294967296 = y6) := by
    refine ⟨y5 + y5 / 4294967296, ?_, by omega, rfl⟩
    exact wrap_nat (y5 + y5 / 4294967296) (by omega)
  have hend : pop 64 x = y6 % 128 := by
    rw [← swar_pop x hx, ← v6.out, ← v5.out, ← v4.out, ← v3.out, ← v2.out, ← v1.out]
    rfl
  rw [hend]
  go_enter Tryd.func94, Tryd.ntmps94
  go_wp2
  go_ret
  refine ⟨?_, rfl⟩
  simp [i64_and127]

theorem bit_run (i : Nat) (hi : i < 4294967296) (w : World) : Calls Tryd.prog 83 #[.int .i64 (i : Int)] w fun e w' => e = .returned (.int .u64 ((2 ^ (i % 64) : Nat) : Int)) ∧ w' = w := by
  go_enter Tryd.func83, Tryd.ntmps83
  go_wp2
  go_ret
  have hw := wrap_nat (2 ^ (i % 64)) (Nat.lt_of_lt_of_le (Nat.pow_lt_pow_right (by decide) (show i % 64 < 64 by omega)) (by decide))
  rw [Int.natCast_pow, show ((2 : Nat) : Int) = 2 from rfl] at hw
  refine ⟨?_, rfl⟩
  simp only [hw]
  simp

theorem smay_run (n : Int) (w : World) : Calls Tryd.prog 48 #[.int .i64 n] w fun e w' => e = .returned (.bool (decide (16 ≤ n ∧ n ≤ 512))) ∧ w' = w := by
  by_cases h1 : 16 ≤ n
  · go_enter Tryd.func48, Tryd.ntmps48
    go_wp2
    go_ret
    refine ⟨?_, rfl⟩
    simp [h1]
  · go_enter Tryd.func48, Tryd.ntmps48
    go_wp2
    go_ret
    refine ⟨?_, rfl⟩
    simp [h1]
    omega

theorem isLabel_run (i : Int) (w : World) : Calls Tryd.prog 82 #[.int .i64 i] w fun e w' => e = .returned (.bool (decide (i < 4))) ∧ w' = w := by
  go_enter Tryd.func82, Tryd.ntmps82
  go_wp2
  go_ret
  exact ⟨rfl, rfl⟩
end Go.Proofs.YtjfoidilecognaaDoor

/-
  The walks over ptr.May, ptr.IsHole, ptr.IsAbsent, and the document's.
-/

namespace Go.Proofs.YtjfoidilecognaaDoor
set_option linter.unusedSimpArgs false
set_option linter.unusedVariables false
set_option maxRecDepth 100000
open Go.RowKit

theorem arr33 {p : Pt} (h : p.ok) {PV : Array Value} (hv : PV = p.vs.toArray) : PV[32]? = some (.int .u32 p.b) ∧ PV[33]? = some (.int .u32 p.x) ∧ PV[34]? = some (.int .u32 p.y) := by
  subst hv
  simp [Pt.vs_birth h, Pt.vs_x h, Pt.vs_y h]

/-- The hole's cells. -/
theorem zero_vs : Pt.zero.vs.toArray = #[.int .u8 0, .int .u8 0, .int .u8 0, .int .u8 0, .int .u8 0, .int .u8 0, .int .u8 0, .int .u8 0, .int .u8 0, .int .u8 0, .int .u8 0, .int .u8 0, .int .u8 0, .int .u8 0, .int .u8 0, .int .u8 0, .int .u8 0, .int .u8 0, .int .u8 0, .int .u8 0, .int .u8 0, .int .u8 0, .int .u8 0, .int .u8 0, .int .u8 0, .int .u8 0, .int .u8 0, .int .u8 0, .int .u8 0, .int .u8 0, .int .u8 0, .int .u8 0, .int .u32 0, .int .u32 0, .int .u32 0] := rfl

set_option maxRecDepth 100000 in
theorem may_run (p : Pt) (hp : p.ok) (w : World) : Calls Tryd.prog 71 #[.agg p.vs.toArray] w fun e w' => e = .returned (.bool p.may) ∧ Below w.heap.size w w' := by
  obtain ⟨PV, hv⟩ : ∃ PV, PV = p.vs.toArray := ⟨_, rfl⟩
  obtain ⟨h32, h33, h34⟩ := arr33 hp hv
  have hb := (Below.refl w.heap.size w).alloc (Nat.le_refl _) (.cells PV 42)
  have hx := hp.x
  have hy := hp.y
  obtain ⟨x, hxx⟩ : ∃ x, x = p.x := ⟨_, rfl⟩
  obtain ⟨y, hyy⟩ : ∃ y, y = p.y := ⟨_, rfl⟩
  have hm : p.may = if x = 0 then y == 0 else !(y == x) := by rw [hxx, hyy]; rfl
  rw [← hv, hm]
  rw [← hxx] at h33 hx
  rw [← hyy] at h34 hy
  clear hxx hyy hv hm hp
  by_cases h0 : x = 0
  · subst h0
    rw [if_pos rfl]
    go_enter Tryd.func71, Tryd.ntmps71
    go_wp2
    go_ret
    refine ⟨?_, hb⟩
    rw [← natbeq]; rfl
  · rw [if_neg h0]
    go_enter Tryd.func71, Tryd.ntmps71
    go_wp2
    go_ret
    refine ⟨?_, hb⟩
    rw [← natbeq]; rfl

--?
set_option maxRecDepth 100000 in
theorem isHole_run (p : Pt) (hp : p.ok) (w : World) : Calls Tryd.prog 45 #[.agg p.vs.toArray] w fun e w' => e = .returned (.bool p.hole) ∧ Below w.heap.size w w' := by
  obtain ⟨PV, hv⟩ : ∃ PV, PV = p.vs.toArray := ⟨_, rfl⟩
  have hb := (Below.refl w.heap.size w).alloc (Nat.le_refl _) (.cells PV 42)
  have hB : Blk 42 (w.alloc (.cells PV 42)) w.heap.size p.vs := Blk.newAt rfl hv
  have heq : ∀ u, (Op.equalIn 10000 42 (.agg PV) (.agg #[.int .u8 0, .int .u8 0, .int .u8 0, .int .u8 0, .int .u8 0, .int .u8 0, .int .u8 0, .int .u8 0, .int .u8 0, .int .u8 0, .int .u8 0, .int .u8 0, .int .u8 0, .int .u8 0, .int .u8 0, .int .u8 0, .int .u8 0, .int .u8 0, .int .u8 0, .int .u8 0, .int .u8 0, .int .u8 0, .int .u8 0, .int .u8 0, .int .u8 0, .int .u8 0, .int .u8 0, .int .u8 0, .int .u8 0, .int .u8 0, .int .u8 0, .int .u8 0, .int .u32 0, .int .u32 0, .int .u32 0])).run Tryd.prog u = .ok p.hole u := fun u => by
    rw [hv, ← zero_vs]; exact equal_ptr hp Pt.zero_ok 9997 u
  have hlen := Pt.vs_len hp
  have HV : Hid (PV = p.vs.toArray) := hv
  rw [← hv]
  clear hv
  go_enter Tryd.func45, Tryd.ntmps45
  go_wp2_with (refine wpList_load_blk (by rfl) (.tmp 1) 42 (by rfl) w.heap.size 0 35 (by rfl) agg_ptr size_ptr hB p.vs (by rw [List.drop_zero, List.take_of_length_le (by omega)]) hlen ?_; rw [← HV.out])
  go_ret
  exact ⟨rfl, hb⟩

set_option maxRecDepth 100000 in
theorem rmay_run (p : Pt) (hp : p.ok) (w : World) : Calls Tryd.prog 65 #[.agg p.vs.toArray] w fun e w' => e = .returned (.bool p.may) ∧ Below w.heap.size w w' := by
  obtain ⟨PV, hv⟩ : ∃ PV, PV = p.vs.toArray := ⟨_, rfl⟩
  obtain ⟨h32, h33, h34⟩ := arr33 hp hv
  have hb := (Below.refl w.heap.size w).alloc (Nat.le_refl _) (.cells PV 42)
  have hx := hp.x
  have hy := hp.y
  obtain ⟨x, hxx⟩ : ∃ x, x = p.x := ⟨_, rfl⟩
  obtain ⟨y, hyy⟩ : ∃ y, y = p.y := ⟨_, rfl⟩
  have hm : p.may = if x = 0 then y == 0 else !(y == x) := by rw [hxx, hyy]; rfl
  rw [← hv, hm]
  rw [← hxx] at h33 hx
  rw [← hyy] at h34 hy
  clear hxx hyy hv hm hp
  by_cases h0 : x = 0
  · subst h0
    rw [if_pos rfl]
    go_enter Tryd.func65, Tryd.ntmps65
    go_wp2
    go_ret
    refine ⟨?_, hb⟩
    rw [← natbeq]; rfl
  · rw [if_neg h0]
    go_enter Tryd.func65, Tryd.ntmps65
    go_wp2
    go_ret
    refine ⟨?_, hb⟩
    rw [← natbeq]; rfl

--?
set_option maxRecDepth 100000 in
theorem risHole_run (p : Pt) (hp : p.ok) (w : World) : Calls Tryd.prog 66 #[.agg p.vs.toArray] w fun e w' => e = .returned (.bool p.hole) ∧ Below w.heap.size w w' := by
  obtain ⟨PV, hv⟩ : ∃ PV, PV = p.vs.toArray := ⟨_, rfl⟩
  have hb := (Below.refl w.heap.size w).alloc (Nat.le_refl _) (.cells PV 42)
  have hB : Blk 42 (w.alloc (.cells PV 42)) w.heap.size p.vs := Blk.newAt rfl hv
  have heq : ∀ u, (Op.equalIn 10000 42 (.agg PV) (.agg #[.int .u8 0, .int .u8 0, .int .u8 0, .int .u8 0, .int .u8 0, .int .u8 0, .int .u8 0, .int .u8 0, .int .u8 0, .int .u8 0, .int .u8 0, .int .u8 0, .int .u8 0, .int .u8 0, .int .u8 0, .int .u8 0, .int .u8 0, .int .u8 0, .int .u8 0, .int .u8 0, .int .u8 0, .int .u8 0, .int .u8 0, .int .u8 0, .int .u8 0, .int .u8 0, .int .u8 0, .int .u8 0, .int .u8 0, .int .u8 0, .int .u8 0, .int .u8 0, .int .u32 0, .int .u32 0, .int .u32 0])).run Tryd.prog u = .ok p.hole u := fun u => by
    rw [hv, ← zero_vs]; exact equal_ptr hp Pt.zero_ok 9997 u
  have hlen := Pt.vs_len hp
  have HV : Hid (PV = p.vs.toArray) := hv
  rw [← hv]
  clear hv
  go_enter Tryd.func66, Tryd.ntmps66
  go_wp2_with (refine wpList_load_blk (by rfl) (.tmp 1) 42 (by rfl) w.heap.size 0 35 (by rfl) agg_ptr size_ptr hB p.vs (by rw [List.drop_zero, List.take_of_length_le (by omega)]) hlen ?_; rw [← HV.out])
  go_ret
  exact ⟨rfl, hb⟩

end Go.Proofs.YtjfoidilecognaaDoor

/-
  Whole noughts: built and laid in memory; the whole number at the beginning.
-/

namespace Go.Proofs.YtjfoidilecognaaDoor
set_option linter.unusedSimpArgs false
set_option linter.unusedVariables false
set_option maxRecDepth 100000
open Go.RowKit

def zeros4 : List Pt := [Pt.zero, Pt.zero, Pt.zero, Pt.zero]
theorem zeros4_ok : ∀ p ∈ zeros4, p.ok := by
  intro p hp
  simp only [zeros4, List.mem_cons, List.not_mem_nil, or_false, or_self] at hp
  subst hp; exact Pt.zero_ok
theorem zeros4_len : (fourV zeros4).length = 140 := fourV_len zeros4_ok

theorem build_ptr0 (w : World) : (Instr.build 42 #[]).run Tryd.prog w = .ok (.agg Pt.zero.vs.toArray) w := by kernel_rfl

theorem alloc_ptr0 (w : World) : (Instr.alloc 42 true (.tuple #[])).run Tryd.prog w = .ok (.pointer (some ⟨w.heap.size, 0, none⟩)) (w.alloc (.cells Pt.zero.vs.toArray 42)) := by kernel_rfl

/-- A value that is built of nothing. -/
theorem wpList_build0 {P : Program} {w : World} {ops : Array Oper} {rest : List Oper} {o : Oper} {a : Act} {Q : Exit → Act → World → Prop} (hw : Region.wanted o (yielded ops a.tmps) = true) (t : TypeId) (ho : o.op = Op.build t #[]) (V : Value) (hr : ∀ w, (Instr.build t #[]).run P w = .ok V w)
    (h : wpList P ops Q rest (a.put o.dst V) w) : wpList P ops Q (o :: rest) a w := by
  refine wpList_step fun K hK => ?_
  rw [if_pos hw]
  have e : (#[] : Array (Nat × Operand)).map (fun (i, x) => (i, a.eval x)) = #[] := by simp
  unfold Oper.wp execOp
  simp only [ho, Sem.run_bind, Sem.run_pure, Result.andThen_ok, e, hr]
  exact hK _ _ h

/-- A variable in a new block. -/
theorem wpList_alloc0 {P : Program} {w : World} {ops : Array Oper} {rest : List Oper} {o : Oper} {a : Act} {Q : Exit → Act → World → Prop} (hgd : o.guard = none) (t : TypeId) (ho : o.op = Op.alloc t) (d : Option Tmp) (hd : o.dst = d) (vs : List Value)
    (hr : ∀ w, (Instr.alloc t true (.tuple #[])).run P w = .ok (.pointer (some ⟨w.heap.size, 0, none⟩)) (w.alloc (.cells vs.toArray t)))
    (h : ∀ w', Blk t w' w.heap.size vs → Below w.heap.size w w' → w'.heap.size = w.heap.size + 1 → wpList P ops Q rest (a.put d (.pointer (some ⟨w.heap.size, 0, none⟩))) w') : wpList P ops Q (o :: rest) a w := by
  subst hd
  refine wpList_plain hgd fun K hK => ?_
  unfold Oper.wp execOp
  simp only [ho, Sem.run_bind, Sem.run_pure, Result.andThen_ok, hr]
  exact hK _ _ (h _ (Blk.newAt rfl rfl) ((Below.refl _ _).alloc (Nat.le_refl _) _) (by simp))

/-- A parameter in a new block. -/
theorem wpList_box0 {P : Program} {w : World} {ops : Array Oper} {rest : List Oper} {o : Oper} {a : Act} {Q : Exit → Act → World → Prop} (hgd : o.guard = none) (t : TypeId) (x : Operand) (ho : o.op = Op.box t x) (vs : List Value) (hx : a.eval x = .agg vs.toArray)
    (h : ∀ w', Blk t w' w.heap.size vs → Below w.heap.size w w' → w'.heap.size = w.heap.size + 1 → wpList P ops Q rest (a.put o.dst (.pointer (some ⟨w.heap.size, 0, none⟩))) w') : wpList P ops Q (o :: rest) a w := by
  refine wpList_plain hgd fun K hK => ?_
  have hr : (Instr.box t (.agg vs.toArray)).run P w = .ok (.pointer (some ⟨w.heap.size, 0, none⟩)) (w.alloc (.cells vs.toArray t)) := by
    simp [Instr.box, newVar, go_sem, Value.cells]
  unfold Oper.wp execOp
  simp only [ho, hx, Sem.run_bind, Sem.run_pure, Result.andThen_ok, hr]
  exact hK _ _ (h _ (Blk.newAt rfl rfl) ((Below.refl _ _).alloc (Nat.le_refl _) _) (by simp))

theorem run_store_int {P : Program} {w : World} {t e : TypeId} {g off : Nat} {vs : List Value} {K : IntKind} {n : Int} (hZ : ∀ w, (sizeOf t).run P w = .ok 1 w) (hb : Blk e w g vs) (hle : off < vs.length) :
    (Instr.storeAt t (.pointer (some ⟨g, off, none⟩)) (.int K n)).run P w = .ok () (w.setRow g (vs.set off (.int K n)).toArray) := by
  have h := run_storeCells_at (P := P) g off e [.int K n] 0 vs.toArray w hb (by simp; omega) (by simp; rfl)
  simp only [Nat.add_zero, List.length_singleton] at h
  have hs : vs.take off ++ [Value.int K n] ++ vs.drop (off + 1) = vs.set off (.int K n) := by rw [List.set_eq_take_append_cons_drop, if_pos hle]; simp
  simp only [List.toList_toArray, hs] at h
  simp [Instr.storeAt, Instr.sureAddr, storeVar, hZ, h, Sem.run_bind, Value.cells]

/-- A number, stored in a block. -/
theorem wpList_store_int {P : Program} {w : World} {ops : Array Oper} {rest : List Oper} {o : Oper} {a : Act} {Q : Exit → Act → World → Prop} (hgd : o.guard = none) (x y : Operand) (t : TypeId) (ho : o.op = Op.store t x y)
    (g off : Nat) (hx : a.eval x = .pointer (some ⟨g, off, none⟩)) (K : IntKind) (n : Int) (hy : a.eval y = .int K n) (hZ : ∀ w, (sizeOf t).run P w = .ok 1 w) {e : TypeId} {vs : List Value} (hb : Blk e w g vs) (hle : off < vs.length)
    (h : ∀ w', Blk e w' g (vs.set off (.int K n)) → But g w w' → w'.heap.size = w.heap.size → wpList P ops Q rest (a.put o.dst undef) w') : wpList P ops Q (o :: rest) a w := by
  refine wpList_plain hgd fun K' hK => ?_
  have hr := run_store_int (P := P) (w := w) (K := K) (n := n) hZ hb hle
  unfold Oper.wp execOp
  simp only [ho, hx, hy, Sem.run_bind, Sem.run_pure, Result.andThen_ok, hr]
  exact hK _ _ (h _ (setRow_heap w g _ _ e _ hb) ((But.refl g w).setRow _) (by simp [World.setRow]))

theorem Bs.lt {w : World} {a : Option Addr} {c : Nat} {xs : List Int} (h : Bs w a c xs) (hne : xs ≠ []) {b : Addr} (ha : a = some b) : b.block < w.heap.size := by
  rcases h.lay with h0 | ⟨b', off, rfl, hc⟩
  · exact absurd h0 hne
  · cases ha
    exact World.block_lt_of_cell? w _ (hc 0 (List.length_pos_iff.2 hne))

theorem size_u32 (w : World) : (sizeOf 34).run Tryd.prog w = .ok 1 w := sizeOf_run sizes23 w

/-- Two results, of which the first one lives in a block. -/
theorem bodyPost_ret_blk2 {P : Program} {fn : Func} {R : Ending → World → Prop} {a : Act} {w : World} {p q : Tmp} {t e : TypeId} {g n : Nat} {us : List Value} {v : Value} (hf : fn.results = #[.cell p t, .tmp q]) (hd : a.defers = [])
    (hp : a.tmps.getD p undef = .pointer (some ⟨g, 0, none⟩)) (hq : a.tmps.getD q undef = v) (hA : ∀ w, (isAgg t).run P w = .ok true w) (hZ : ∀ w, (sizeOf t).run P w = .ok n w) (hb : Blk e w g us) (hl : us.length = n)
    (hR : R (.returned (.tuple #[.agg us.toArray, v])) w) : bodyPost P fn R .ret a w := by
  refine bodyPost_ret_by (v := .tuple #[.agg us.toArray, v]) ?_ hd hR
  have hr := run_load_blk (P := P) (w := w) (off := 0) hA hZ hb (us := us) (by rw [List.drop_zero, List.take_of_length_le (by omega)]) hl
  simp only [Instr.loadAt, Instr.sureAddr, Sem.run_bind, Sem.run_pure, Result.andThen_ok] at hr
  rw [Array.getD_eq_getD_getElem?] at hp hq
  simp [results, hf, hp, hq, asAddr, Sem.run_bind, hr]

theorem whole_load {vs : List Value} {n : Nat} (h : vs.length = n) : vs = (vs.drop 0).take n := by
  rw [List.drop_zero, List.take_of_length_le (by omega)]
theorem whole_store {us vs : List Value} {n : Nat} (h : vs.length = n) : us = vs.take 0 ++ us ++ vs.drop (0 + n) := by
  rw [List.take_zero, List.nil_append, List.drop_eq_nil_of_le (by omega), List.append_nil]

theorem Pt.vs_setb {h : List Int} (hl : h.length = 32) (b x y n : Nat) : (Pt.vs ⟨h, b, x, y⟩).set 32 (.int .u32 (n : Int)) = Pt.vs ⟨h, n, x, y⟩ := by
  unfold Pt.vs; rw [List.set_append_right _ _ (by simp [hl])]; simp [hl]
theorem Pt.vs_setx {h : List Int} (hl : h.length = 32) (b x y n : Nat) : (Pt.vs ⟨h, b, x, y⟩).set 33 (.int .u32 (n : Int)) = Pt.vs ⟨h, b, n, y⟩ := by
  unfold Pt.vs; rw [List.set_append_right _ _ (by simp [hl])]; simp [hl]
theorem Pt.vs_sety {h : List Int} (hl : h.length = 32) (b x y n : Nat) : (Pt.vs ⟨h, b, x, y⟩).set 34 (.int .u32 (n : Int)) = Pt.vs ⟨h, b, x, n⟩ := by
  unfold Pt.vs; rw [List.set_append_right _ _ (by simp [hl])]; simp [hl]

theorem Pt.vs_one (p : Pt) : ∀ v ∈ p.vs, v.oneCell' = true := by
  intro v hv
  simp only [Pt.vs, List.mem_append, List.mem_map, List.mem_cons, List.not_mem_nil, or_false] at hv
  rcases hv with ⟨x, _, rfl⟩ | rfl | rfl | rfl <;> rfl
theorem fourV_one : ∀ (l : List Pt), ∀ v ∈ fourV l, v.oneCell' = true
  | [], _, h => by simp [fourV] at h
  | p :: l, v, h => by
    rcases List.mem_append.1 h with h | h
    · exact p.vs_one v h
    · exact fourV_one l v h

end Go.Proofs.YtjfoidilecognaaDoor
