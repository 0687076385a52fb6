/-
  Pointers, and four of them, compared.
-/
import Derived.Test.YthbcphalokoknaaDoorG06
namespace Go.Proofs.YthbcphalokoknaaDoor
set_option linter.unusedSimpArgs false
set_option linter.unusedVariables false
open Go.RowKit

theorem equal_array {P : Program} {t e : TypeId} {n m : Nat} {w : World} (ht : P.underlying t = some (.array n e)) (hs : (P.info? e).map (·.size) = some m) (d : Nat) (X Y : Array Value) (px py : Nat → Value) (r : Nat → Bool)
    (hx : ∀ i, i < n → (part e X (i * m)).run P w = .ok (px i) w) (hy : ∀ i, i < n → (part e Y (i * m)).run P w = .ok (py i) w) (he : ∀ i, i < n → (Op.equalIn d e (px i) (py i)).run P w = .ok (r i) w) :
    (Op.equalIn (d + 1) t (.agg X) (.agg Y)).run P w = .ok ((List.range n).all r) w := by
  have hsz := sizeOf_run hs
  rw [List.range_eq_range', Op.equalIn]
  simp only [Sem.run_bind, run_underlying ht, Result.andThen_ok, hsz, Std.Legacy.Range.forIn_eq_forIn_range', Std.Legacy.Range.size, Nat.sub_zero, Nat.add_sub_cancel, Nat.div_one]
  have hl : ∀ i ∈ List.range' 0 n 1, i < n := fun i hi => by simpa using (List.mem_range'_1.1 hi).2
  generalize List.range' 0 n 1 = l at hl ⊢
  induction l with
  | nil => simp
  | cons i l ih =>
    have hi : i < n := hl i (by simp)
    simp only [List.forIn_cons, Sem.run_bind, hx i hi, hy i hi, he i hi, Result.andThen_ok, List.all_cons]
    cases hb : r i
    · simp
    · simp only [Bool.not_true, Bool.false_eq_true, if_false, Sem.run_pure, Result.andThen_ok, Bool.true_and]
      exact ih fun j hj => hl j (by simp [hj])

theorem part_agg {P : Program} {t : TypeId} {n off : Nat} {w : World} {cs us : List Value} (hA : ∀ w, (isAgg t).run P w = .ok true w) (hZ : ∀ w, (sizeOf t).run P w = .ok n w) (hu : us = (cs.drop off).take n) : (part t cs.toArray off).run P w = .ok (.agg us.toArray) w := by
  subst hu
  simp [part, hA, hZ, Sem.run_bind]

theorem part_one {P : Program} {t : TypeId} {off : Nat} {w : World} {cs : List Value} {v : Value} {K : IntKind} (hI : P.underlying t = some (.int K)) (hv : cs[off]? = some v) : (part t cs.toArray off).run P w = .ok v w := by
  simp [part, isAgg, run_underlying hI, hv, Sem.run_bind]

theorem fields_ptr : Tryd.prog.underlying 26 = some (.struct (Tryd.prog.fieldsOf 26)) := by kernel_rfl
theorem fields_list : (Tryd.prog.fieldsOf 26).toList.map (fun f => (f.name == "_", f.type, f.offset)) = [(false, 23, 0), (false, 22, 32), (false, 24, 33)] := by kernel_rfl
theorem stood_ptr : Tryd.prog.stoodInHeld 26 = false := by kernel_rfl
theorem agg_hsh (w : World) : (isAgg 23).run Tryd.prog w = .ok true w := isAgg_array Tryd.underlying23 w
theorem size_hash (w : World) : (sizeOf 23).run Tryd.prog w = .ok 32 w := sizeOf_run (by kernel_rfl) w
theorem agg_at (w : World) : (isAgg 24).run Tryd.prog w = .ok true w := isAgg_array Tryd.underlying24 w
theorem size_at (w : World) : (sizeOf 24).run Tryd.prog w = .ok 2 w := sizeOf_run (by kernel_rfl) w
theorem agg_ptr (w : World) : (isAgg 26).run Tryd.prog w = .ok true w := isAgg_struct fields_ptr w
theorem size_ptr (w : World) : (sizeOf 26).run Tryd.prog w = .ok 35 w := sizeOf_run (by kernel_rfl) w

theorem sizes5 : (Tryd.prog.info? 5).map (·.size) = some 1 := by kernel_rfl
theorem sizes23 : (Tryd.prog.info? 22).map (·.size) = some 1 := by kernel_rfl
theorem sizes26 : (Tryd.prog.info? 26).map (·.size) = some 35 := by kernel_rfl

theorem natbeq (a b : Nat) : ((a : Int) == (b : Int)) = (a == b) := by
  rw [Bool.eq_iff_iff]; simp; omega

theorem Pt.vs_hash {p : Pt} (h : p.ok) : p.h.map (Value.int .u8) = (p.vs.drop 0).take 32 := by
  have : (p.h.map (Value.int .u8)).length = 32 := by simp [h.len]
  rw [List.drop_zero, Pt.vs, ← this, List.take_left]
theorem Pt.vs_tail {p : Pt} (h : p.ok) : p.vs.drop 32 = [.int .u32 p.b, .int .u32 p.x, .int .u32 p.y] := by
  have : (p.h.map (Value.int .u8)).length = 32 := by simp [h.len]
  rw [Pt.vs, ← this, List.drop_left]
theorem Pt.vs_birth {p : Pt} (h : p.ok) : p.vs[32]? = some (.int .u32 p.b) := by
  have := congrArg (·[0]?) (Pt.vs_tail h)
  simpa [List.getElem?_drop] using this
theorem Pt.vs_x {p : Pt} (h : p.ok) : p.vs[33]? = some (.int .u32 p.x) := by
  have := congrArg (·[1]?) (Pt.vs_tail h)
  simpa [List.getElem?_drop] using this
theorem Pt.vs_y {p : Pt} (h : p.ok) : p.vs[34]? = some (.int .u32 p.y) := by
  have := congrArg (·[2]?) (Pt.vs_tail h)
  simpa [List.getElem?_drop] using this
theorem Pt.vs_at {p : Pt} (h : p.ok) : ([(p.x : Int), (p.y : Int)].map (Value.int .u32)) = (p.vs.drop 33).take 2 := by
  rw [show 33 = 32 + 1 from rfl, ← List.drop_drop, Pt.vs_tail h]; rfl

/-- A load of a whole value that a guard lets through. -/
theorem wpList_load_blk_guard {P : Program} {w : World} {ops : Array Oper} {rest : List Oper} {o : Oper} {a : Act} {Q : Exit → Act → World → Prop} (hw : Region.wanted o (yielded ops a.tmps) = true) (x : Operand) (t : TypeId) (ho : o.op = Op.load t x)
    (g off n : Nat) (hx : a.eval x = .pointer (some ⟨g, off, none⟩)) (hA : ∀ w, (isAgg t).run P w = .ok true w) (hZ : ∀ w, (sizeOf t).run P w = .ok n w) {e : TypeId} {vs : List Value} (hb : Blk e w g vs)
    (us : List Value) (hu : us = (vs.drop off).take n) (hl : us.length = n) (h : wpList P ops Q rest (a.put o.dst (.agg us.toArray)) w) : wpList P ops Q (o :: rest) a w := by
  refine wpList_step fun K hK => ?_
  rw [if_pos hw]
  exact step_load_blk x t ho g off n hx hA hZ hb us hu hl (hK _ _ h)

theorem fields3 {l : List Field} {t1 t2 t3 o1 o2 o3 : Nat} (h : l.map (fun f => (f.name == "_", f.type, f.offset)) = [(false, t1, o1), (false, t2, o2), (false, t3, o3)]) :
    ∃ f1 f2 f3 : Field, l = [f1, f2, f3] ∧ (f1.name == "_") = false ∧ f1.type = t1 ∧ f1.offset = o1 ∧ (f2.name == "_") = false ∧ f2.type = t2 ∧ f2.offset = o2 ∧ (f3.name == "_") = false ∧ f3.type = t3 ∧ f3.offset = o3 := by
  rcases l with _ | ⟨f1, _ | ⟨f2, _ | ⟨f3, _ | ⟨f4, l⟩⟩⟩⟩
  · simp at h
  · simp at h
  · simp at h
  · simp only [List.map_cons, List.map_nil, List.cons.injEq, Prod.mk.injEq, and_true] at h
    exact ⟨f1, f2, f3, rfl, h.1.1, h.1.2.1, h.1.2.2, h.2.1.1, h.2.1.2.1, h.2.1.2.2, h.2.2.1, h.2.2.2.1, h.2.2.2.2⟩
  · simp at h

theorem equal_ptr_in {P : Program} {t tH tB tA e : TypeId} (ht : P.underlying t = some (.struct (P.fieldsOf t))) (hs : P.stoodInHeld t = false)
    (hf : (P.fieldsOf t).toList.map (fun f => (f.name == "_", f.type, f.offset)) = [(false, tH, 0), (false, tB, 32), (false, tA, 33)])
    (uH : P.underlying tH = some (.array 32 e)) (uB : P.underlying tB = some (.int .u32)) (uA : P.underlying tA = some (.array 2 tB)) (ue : P.underlying e = some (.int .u8))
    (sH : (P.info? tH).map (·.size) = some 32) (sB : (P.info? tB).map (·.size) = some 1) (sA : (P.info? tA).map (·.size) = some 2) (se : (P.info? e).map (·.size) = some 1)
    {p q : Pt} (hp : p.ok) (hq : q.ok) (d : Nat) (w : World) : (Op.equalIn (d + 3) t (.agg p.vs.toArray) (.agg q.vs.toArray)).run P w = .ok (p.same q) w := by
  rw [run_equalIn_struct w (d + 2) _ _ _ ht hs]
  obtain ⟨f1, f2, f3, hl, n1, t1, o1, n2, t2, o2, n3, t3, o3⟩ := fields3 hf
  rw [hl]
  have g1 : f1.name ≠ "_" := by intro h; simp [h] at n1
  have g2 : f2.name ≠ "_" := by intro h; simp [h] at n2
  have g3 : f3.name ≠ "_" := by intro h; simp [h] at n3
  have pa1 := fun {p : Pt} (h : p.ok) => part_agg (P := P) (w := w) (off := 0) (isAgg_array uH) (sizeOf_run sH) (Pt.vs_hash h)
  have pa2 := fun {p : Pt} (h : p.ok) => part_one (P := P) (w := w) uB (Pt.vs_birth h)
  have pa3 := fun {p : Pt} (h : p.ok) => part_agg (P := P) (w := w) (off := 33) (isAgg_array uA) (sizeOf_run sA) (Pt.vs_at h)
  have e1 := equal_ints (P := P) uH ue se d p.h q.h hp.len hq.len w
  have e2 : (Op.equalIn (d + 2) tB (.int .u32 (p.b : Int)) (.int .u32 (q.b : Int))).run P w = .ok ((p.b : Int) == (q.b : Int)) w := run_equalIn_int w (d + 1) _ _ _ _ _ uB
  have e3 := equal_ints (P := P) uA uB sB d [(p.x : Int), (p.y : Int)] [(q.x : Int), (q.y : Int)] rfl rfl w
  simp only [Op.eqFields, g1, g2, g3, t1, t2, t3, o1, o2, o3, ne_eq, not_false_eq_true, if_true, Sem.run_bind, pa1 hp, pa1 hq, pa2 hp, pa2 hq, pa3 hp, pa3 hq, e1, e2, e3, Result.andThen_ok, natbeq, Sem.run_ite, Sem.run_pure]
  have hcons : ([(p.x : Int), (p.y : Int)] == [(q.x : Int), (q.y : Int)]) = (p.x == q.x && p.y == q.y) := by
    rw [← natbeq p.x, ← natbeq p.y]; simp [List.cons_beq_cons]
  unfold Pt.same
  rw [hcons]
  cases p.h == q.h <;> cases p.b == q.b <;> cases p.x == q.x <;> cases p.y == q.y <;> simp

theorem equal_ptr {p q : Pt} (hp : p.ok) (hq : q.ok) (d : Nat) (w : World) : (Op.equalIn (d + 3) 26 (.agg p.vs.toArray) (.agg q.vs.toArray)).run Tryd.prog w = .ok (p.same q) w :=
  equal_ptr_in fields_ptr stood_ptr fields_list Tryd.underlying23 Tryd.underlying22 Tryd.underlying24 Tryd.underlying5 (by kernel_rfl) sizes23 (by kernel_rfl) sizes5 hp hq d w

/-- Four pointers, cell by cell. -/
def fourV : List Pt → List Value
  | [] => []
  | p :: l => p.vs ++ fourV l

theorem fourV_len : ∀ {l : List Pt}, (∀ p ∈ l, p.ok) → (fourV l).length = 35 * l.length
  | [], _ => rfl
  | p :: l, h => by
    rw [fourV, List.length_append, Pt.vs_len (h p (by simp)), fourV_len (fun q hq => h q (by simp [hq])), List.length_cons]; omega

theorem fourV_part : ∀ {l : List Pt}, (∀ p ∈ l, p.ok) → ∀ i (hi : i < l.length), l[i].vs = ((fourV l).drop (i * 35)).take 35
  | p :: l, h, 0, _ => by
    have := Pt.vs_len (h p (by simp))
    rw [fourV, Nat.zero_mul, List.drop_zero, ← this, List.take_left]; rfl
  | p :: l, h, i + 1, hi => by
    have h1 := Pt.vs_len (h p (by simp))
    have ih := fourV_part (l := l) (fun q hq => h q (by simp [hq])) i (by simpa using hi)
    rw [fourV, show (i + 1) * 35 = p.vs.length + i * 35 by omega, ← List.drop_drop, List.drop_left, ← ih]; rfl

def sameAll : List Pt → List Pt → Bool
  | p :: l, q :: m => p.same q && sameAll l m
  | _, _ => true

theorem sameAll_iff : ∀ {l m : List Pt}, l.length = m.length → (sameAll l m = true ↔ l = m)
  | [], [], _ => by simp [sameAll]
  | p :: l, q :: m, h => by
    have := sameAll_iff (l := l) (m := m) (by simpa using h)
    simp [sameAll, Pt.same_iff, this]
  | [], _ :: _, h => by simp at h
  | _ :: _, [], h => by simp at h

theorem sameAll_range : ∀ {l m : List Pt}, l.length = m.length → (List.range l.length).all (fun i => (l.getD i Pt.zero).same (m.getD i Pt.zero)) = sameAll l m
  | [], [], _ => rfl
  | p :: l, q :: m, h => by
    have ih := sameAll_range (l := l) (m := m) (by simpa using h)
    rw [List.length_cons, List.range_succ_eq_map, List.all_cons, List.all_map]
    simp only [List.getD_cons_zero, Function.comp_def, List.getD_cons_succ]
    rw [ih]; rfl
  | [], _ :: _, h => by simp at h
  | _ :: _, [], h => by simp at h

theorem equal_four_in {P : Program} {t e : TypeId} {w : World} (ht : P.underlying t = some (.array 4 e)) (hs : (P.info? e).map (·.size) = some 35) (hA : ∀ w, (isAgg e).run P w = .ok true w) (d : Nat)
    (he : ∀ p q : Pt, p.ok → q.ok → (Op.equalIn d e (.agg p.vs.toArray) (.agg q.vs.toArray)).run P w = .ok (p.same q) w)
    {l m : List Pt} (hl : ∀ p ∈ l, p.ok) (hm : ∀ p ∈ m, p.ok) (h1 : l.length = 4) (h2 : m.length = 4) :
    (Op.equalIn (d + 1) t (.agg (fourV l).toArray) (.agg (fourV m).toArray)).run P w = .ok (sameAll l m) w := by
  rw [← sameAll_range (h1.trans h2.symm), h1]
  have each : ∀ {l : List Pt}, (∀ p ∈ l, p.ok) → l.length = 4 → ∀ i, i < 4 → (part e (fourV l).toArray (i * 35)).run P w = .ok (.agg (l.getD i Pt.zero).vs.toArray) w := fun {l} hl h1 i hi =>
    part_agg hA (sizeOf_run hs) (by
      have := fourV_part hl i (by omega)
      rw [← this, List.getD_eq_getElem?_getD, List.getElem?_eq_getElem (by omega)]; rfl)
  have okD : ∀ {l : List Pt}, (∀ p ∈ l, p.ok) → ∀ i, (l.getD i Pt.zero).ok := fun {l} hl i => by
    rw [List.getD_eq_getElem?_getD]
    cases h : l[i]? with
    | none => exact Pt.zero_ok
    | some p => exact hl p (List.mem_of_getElem? h)
  exact equal_array ht hs d _ _ _ _ _ (each hl h1) (each hm h2) (fun i hi => he _ _ (okD hl i) (okD hm i))

end Go.Proofs.YthbcphalokoknaaDoor

/-
  The walks over ptr.May, ptr.IsHole, ptr.IsAbsent, and the document's.
-/

namespace Go.Proofs.YthbcphalokoknaaDoor
set_option linter.unusedSimpArgs false
set_option linter.unusedVariables false
open Go.RowKit

theorem arr33 {p : Pt} (h : p.ok) {PV : Array Value} (hv : PV = p.vs.toArray) : PV[32]? = some (.int .u32 p.b) ∧ PV[33]? = some (.int .u32 p.x) ∧ PV[34]? = some (.int .u32 p.y) := by
  subst hv
  simp [Pt.vs_birth h, Pt.vs_x h, Pt.vs_y h]

/-- The hole's cells. -/
theorem zero_vs : Pt.zero.vs.toArray = #[.int .u8 0, .int .u8 0, .int .u8 0, .int .u8 0, .int .u8 0, .int .u8 0, .int .u8 0, .int .u8 0, .int .u8 0, .int .u8 0, .int .u8 0, .int .u8 0, .int .u8 0, .int .u8 0, .int .u8 0, .int .u8 0, .int .u8 0, .int .u8 0, .int .u8 0, .int .u8 0, .int .u8 0, .int .u8 0, .int .u8 0, .int .u8 0, .int .u8 0, .int .u8 0, .int .u8 0, .int .u8 0, .int .u8 0, .int .u8 0, .int .u8 0, .int .u8 0, .int .u32 0, .int .u32 0, .int .u32 0] := rfl

set_option maxRecDepth 100000 in
theorem may_run (p : Pt) (hp : p.ok) (w : World) : Calls Tryd.prog 33 #[.agg p.vs.toArray] w fun e w' => e = .returned (.bool p.may) ∧ Below w.heap.size w w' := by
  obtain ⟨PV, hv⟩ : ∃ PV, PV = p.vs.toArray := ⟨_, rfl⟩
  obtain ⟨h32, h33, h34⟩ := arr33 hp hv
  have hb := (Below.refl w.heap.size w).alloc (Nat.le_refl _) (.cells PV 26)
  have hx := hp.x
  have hy := hp.y
  obtain ⟨x, hxx⟩ : ∃ x, x = p.x := ⟨_, rfl⟩
  obtain ⟨y, hyy⟩ : ∃ y, y = p.y := ⟨_, rfl⟩
  have hm : p.may = if x = 0 then y == 0 else !(y == x) := by rw [hxx, hyy]; rfl
  rw [← hv, hm]
  rw [← hxx] at h33 hx
  rw [← hyy] at h34 hy
  clear hxx hyy hv hm hp
  by_cases h0 : x = 0
  · subst h0
    rw [if_pos rfl]
    go_enter Tryd.func33, Tryd.ntmps33
    go_wp2
    go_ret
    refine ⟨?_, hb⟩
    rw [← natbeq]; rfl
  · rw [if_neg h0]
    go_enter Tryd.func33, Tryd.ntmps33
    go_wp2
    go_ret
    refine ⟨?_, hb⟩
    rw [← natbeq]; rfl

set_option maxRecDepth 100000 in
theorem rmay_run (p : Pt) (hp : p.ok) (w : World) : Calls Tryd.prog 37 #[.agg p.vs.toArray] w fun e w' => e = .returned (.bool p.may) ∧ Below w.heap.size w w' := by
  obtain ⟨PV, hv⟩ : ∃ PV, PV = p.vs.toArray := ⟨_, rfl⟩
  obtain ⟨h32, h33, h34⟩ := arr33 hp hv
  have hb := (Below.refl w.heap.size w).alloc (Nat.le_refl _) (.cells PV 26)
  have hx := hp.x
  have hy := hp.y
  obtain ⟨x, hxx⟩ : ∃ x, x = p.x := ⟨_, rfl⟩
  obtain ⟨y, hyy⟩ : ∃ y, y = p.y := ⟨_, rfl⟩
  have hm : p.may = if x = 0 then y == 0 else !(y == x) := by rw [hxx, hyy]; rfl
  rw [← hv, hm]
  rw [← hxx] at h33 hx
  rw [← hyy] at h34 hy
  clear hxx hyy hv hm hp
  by_cases h0 : x = 0
  · subst h0
    rw [if_pos rfl]
    go_enter Tryd.func37, Tryd.ntmps37
    go_wp2
    go_ret
    refine ⟨?_, hb⟩
    rw [← natbeq]; rfl
  · rw [if_neg h0]
    go_enter Tryd.func37, Tryd.ntmps37
    go_wp2
    go_ret
    refine ⟨?_, hb⟩
    rw [← natbeq]; rfl

end Go.Proofs.YthbcphalokoknaaDoor

/-
  The walk over ptr.Encode.
-/

namespace Go.Proofs.YthbcphalokoknaaDoor
set_option linter.unusedSimpArgs false
set_option linter.unusedVariables false
open Go.RowKit

theorem agg_44 (w : World) : (isAgg 74).run Tryd.prog w = .ok true w := isAgg_array Tryd.underlying74 w
theorem size_44 (w : World) : (sizeOf 74).run Tryd.prog w = .ok 44 w := sizeOf_run (by kernel_rfl) w

theorem put32_nil (n : Nat) (hn : n < 4294967296) (w : World) :
    Calls Tryd.prog 35 #[.slice none 0 0, .int .u32 (n : Int)] w fun e w' => ∃ a' c', e = .returned (.slice a' 4 c') ∧ Bs w' a' c' (b32 n) ∧ Below w.heap.size w w' :=
  put32_to none 0 [] n n rfl hn w (b32 n) rfl (Bs.empty w) (by simp)

/-- The numbers of a pointer. -/
def Pt.num (p : Pt) (k : Nat) : Nat := if k = 0 then p.b else if k = 1 then p.x else p.y
theorem Pt.num_lt {p : Pt} (h : p.ok) (k : Nat) : p.num k < 4294967296 := by
  unfold Pt.num
  split
  · exact h.b
  · split
    · exact h.x
    · exact h.y

/-- What of it is written so far, and noughts behind. -/
def Pt.part (p : Pt) (n : Nat) : List Int := p.enc.take n ++ List.replicate (44 - n) 0
theorem Pt.part_len {p : Pt} (h : p.ok) (n : Nat) (hn : n ≤ 44) : (p.part n).length = 44 := by
  simp [Pt.part, Pt.enc_len h]; omega
theorem Pt.part_all {p : Pt} (h : p.ok) : p.part 44 = p.enc := by
  have := Pt.enc_len h
  simp [Pt.part, List.take_of_length_le (show p.enc.length ≤ 44 by omega)]

theorem part_step {E : List Int} (hE : E.length = 44) (A m : Nat) (hm : A + m ≤ 44) (ys : List Int) (hy : ys = (E.drop A).take m) :
    splice ((E.take A ++ List.replicate (44 - A) 0).map (Value.int .u8)) A (ys.map (Value.int .u8)) = (E.take (A + m) ++ List.replicate (44 - (A + m)) 0).map (Value.int .u8) := by
  have hl : ys.length = m := by rw [hy]; simp; omega
  have h1 : (E.take A).length = A := by simp; omega
  have h := splice_row (E.take A) (List.replicate (44 - A) 0) ys
  rw [h1] at h
  rw [h, hl, List.drop_replicate, hy]
  congr 2
  · rw [List.take_add]
  · congr 1; omega

theorem Pt.enc_num {p : Pt} (h : p.ok) (k : Nat) (hk : k < 3) : b32 (p.num k) = (p.enc.drop (32 + 4 * k)).take 4 := by
  have e2 : p.enc.drop 32 = b32 p.b ++ (b32 p.x ++ b32 p.y) := by unfold Pt.enc; rw [← h.len, List.drop_left]
  rw [← List.drop_drop, e2]
  rcases (by omega : k = 0 ∨ k = 1 ∨ k = 2) with rfl | rfl | rfl <;> rfl

theorem Pt.enc_hash {p : Pt} (h : p.ok) : p.h = (p.enc.drop 0).take 32 := by
  unfold Pt.enc; rw [List.drop_zero, ← h.len, List.take_left]

set_option maxHeartbeats 1000000 in
set_option maxRecDepth 100000 in
theorem encode_run (p : Pt) (hp : p.ok) (w : World) : Calls Tryd.prog 34 #[.agg p.vs.toArray] w fun e w' => e = .returned (.agg (p.enc.map (Value.int .u8)).toArray) ∧ Below w.heap.size w w' := by
  obtain ⟨PV, hv⟩ : ∃ PV, PV = p.vs.toArray := ⟨_, rfl⟩
  rw [← hv]
  obtain ⟨W, hW⟩ : ∃ W, W = ((w.alloc (.cells PV 26)).alloc (.cells #[.int .u8 0, .int .u8 0, .int .u8 0, .int .u8 0, .int .u8 0, .int .u8 0, .int .u8 0, .int .u8 0, .int .u8 0, .int .u8 0, .int .u8 0, .int .u8 0, .int .u8 0, .int .u8 0, .int .u8 0, .int .u8 0, .int .u8 0, .int .u8 0, .int .u8 0, .int .u8 0, .int .u8 0, .int .u8 0, .int .u8 0, .int .u8 0, .int .u8 0, .int .u8 0, .int .u8 0, .int .u8 0, .int .u8 0, .int .u8 0, .int .u8 0, .int .u8 0, .int .u8 0, .int .u8 0, .int .u8 0, .int .u8 0, .int .u8 0, .int .u8 0, .int .u8 0, .int .u8 0, .int .u8 0, .int .u8 0, .int .u8 0, .int .u8 0] 74)).alloc (.cells #[.int .u8 0, .int .u8 0, .int .u8 0, .int .u8 0, .int .u8 0, .int .u8 0, .int .u8 0, .int .u8 0, .int .u8 0, .int .u8 0, .int .u8 0, .int .u8 0, .int .u8 0, .int .u8 0, .int .u8 0, .int .u8 0, .int .u8 0, .int .u8 0, .int .u8 0, .int .u8 0, .int .u8 0, .int .u8 0, .int .u8 0, .int .u8 0, .int .u8 0, .int .u8 0, .int .u8 0, .int .u8 0, .int .u8 0, .int .u8 0, .int .u8 0, .int .u8 0, .int .u8 0, .int .u8 0, .int .u8 0, .int .u8 0, .int .u8 0, .int .u8 0, .int .u8 0, .int .u8 0, .int .u8 0, .int .u8 0, .int .u8 0, .int .u8 0] 74) := ⟨_, rfl⟩
  have hbW : Below w.heap.size w W := by rw [hW]; exact (((Below.refl _ _).alloc (Nat.le_refl _) _).alloc (by simp) _).alloc (by simp; omega) _
  have hP : Blk 26 W w.heap.size p.vs := by rw [hW]; exact ((Blk.newAt rfl hv).alloc _).alloc _
  have hR : Blk 74 W (w.heap.size + 1) ((List.replicate 44 0).map (Value.int .u8)) := by rw [hW]; exact (Blk.newAt (by simp) rfl).alloc _
  have hO : Blk 74 W (w.heap.size + 1 + 1) ((List.replicate 44 0).map (Value.int .u8)) := by rw [hW]; exact Blk.newAt (by simp) rfl
  have hWs : W.heap.size = w.heap.size + 3 := by rw [hW]; simp
  have hPB : Bs W (some ⟨w.heap.size, 0, none⟩) 32 p.h := by
    have hl := hp.len
    refine ⟨hp.rng, by omega, by decide, by simp, .inr ⟨_, 0, rfl, fun i hi => ?_⟩⟩
    rw [hP.cell]
    have := Pt.vs_hash hp
    simp only [List.drop_zero] at this
    have h2 : p.vs[0 + i]? = (p.vs.take 32)[i]? := by rw [Nat.zero_add, List.getElem?_take_of_lt (by omega)]
    rw [h2, ← this]
    simp [List.getD, hi]
  have HW : Hid (W = _) := hW
  clear hW hv
  go_enter Tryd.func34, Tryd.ntmps34
  go_wp2
  rw [← HW.out]
  clear HW
  generalize hH : w.heap.size = H at *
  refine wp_region_any (by kernel_rfl) ?_
  change wpAny _ _ _ _ _ _ _ (World.drew _)
  refine any_take 0 rfl (some 7) rfl (.slice (some ⟨H + 1 + 1, 0, none⟩) 44 44) (by kernel_rfl) (by kernel_rfl) (by kernel_rfl) (fun _ _ _ h => h) (Or.inl ⟨by rfl, fun w => by go_simp⟩) ?_
  simp only [Act.put, List.setIfInBounds_toArray, List.set_cons_succ, List.set_cons_zero]
  refine any_take 1 rfl (some 8) rfl (.pointer (some ⟨H, 0, none⟩)) (by kernel_rfl) (by kernel_rfl) (by kernel_rfl) (fun _ _ _ h => h) (Or.inl ⟨by rfl, fun w => by go_simp⟩) ?_
  simp only [Act.put, List.setIfInBounds_toArray, List.set_cons_succ, List.set_cons_zero]
  refine any_take 2 rfl (some 9) rfl (.slice (some ⟨H, 0, none⟩) 32 32) (by kernel_rfl) (by kernel_rfl) (by kernel_rfl) (fun _ _ _ h => h) (Or.inl ⟨by rfl, fun w => by go_simp⟩) ?_
  simp only [Act.put, List.setIfInBounds_toArray, List.set_cons_succ, List.set_cons_zero]
  refine any_seq 3 (by rfl) (by kernel_rfl) ?_
  simp only [List.drop_succ_cons, List.drop_zero]
  have hpl : p.h.length = 32 := hp.len
  have hlen0 : ((List.replicate 44 (0 : Int)).map (Value.int .u8)).length = 44 := rfl
  refine wpList_copy_blk (by rfl) (.tmp 7) (.tmp 9) 27 27 (by rfl) 5 Tryd.underlying27 sizes5 (H + 1 + 1) 0 44 44 _ 32 32 (by rfl) (by rfl) hO.drew p.h 32 (hPB.stays (Below.refl _ _).drew) (by decide) (by rfl) (by omega) (by rw [hlen0]; omega) ?_
  intro w1 hO1 hbut1 hsz1
  have e1 : splice ((List.replicate 44 (0 : Int)).map (Value.int .u8)) 0 ((p.h.take 32).map (Value.int .u8)) = (p.part 32).map (Value.int .u8) := by
    have := part_step (Pt.enc_len hp) 0 32 (by omega) p.h (Pt.enc_hash hp)
    rw [List.take_of_length_le (by omega)]
    simpa [Pt.part] using this
  rw [e1] at hO1
  clear e1
  have hne : H ≠ H + 1 + 1 := by omega
  have hltH : H < W.drew.heap.size := by show H < W.heap.size; omega
  have hP1 : Blk 26 w1 H p.vs := Blk.but (w := W.drew) hP hbut1 hne
  have hNB : w1.cell? ⟨H, 32, none⟩ = some (.int .u32 (p.b : Int)) := (hP1.cell 32).trans (Pt.vs_birth hp)
  have hNX : w1.cell? ⟨H, 33, none⟩ = some (.int .u32 (p.x : Int)) := (hP1.cell 33).trans (Pt.vs_x hp)
  have hNY : w1.cell? ⟨H, 34, none⟩ = some (.int .u32 (p.y : Int)) := (hP1.cell 34).trans (Pt.vs_y hp)
  have hbw1 : But (H + 1 + 1) W w1 := ⟨hbut1.os, hbut1.tape, hbut1.output, hbut1.size, hbut1.block⟩
  clear hbut1
  go_wp2
  go_loopw [4, 20] (fun v i wr => ∃ k : Nat, k ≤ 3 ∧ i = .int .i64 k ∧ v = .int .i64 ((32 + 4 * k : Nat) : Int) ∧ Blk 74 wr (H + 1 + 1) ((p.part (32 + 4 * k)).map (Value.int .u8)) ∧ But (H + 1 + 1) W wr) (fun _ i _ => 3 - (intOf i).toNat)
  case atStart => exact ⟨0, by omega, rfl, rfl, hO1, hbw1⟩
  case round =>
    rename_i hrel
    obtain ⟨k, hk, rfl, rfl, hOr, hbr⟩ := hrel
    clear hO1 hbw1 hNB hNX hNY hP1
    have hszr := hbr.size
    by_cases hlt : k < 3
    · obtain ⟨A, hA⟩ : ∃ A, A = 32 + 4 * k := ⟨_, rfl⟩
      obtain ⟨n, hn⟩ : ∃ n, n = p.num k := ⟨_, rfl⟩
      have hnl : n < 4294967296 := hn ▸ Pt.num_lt hp k
      have hix : ∀ u : World, (Instr.index 103 (.agg #[.int .u32 (p.b : Int), .int .u32 (p.x : Int), .int .u32 (p.y : Int)]) (.int .i64 (k : Int))).run Tryd.prog u = .ok (.int .u32 (n : Int)) u := fun u => by
        refine index_agg Tryd.underlying103 Tryd.underlying22 sizes23 hlt ?_ .i64 u
        rw [hn]
        rcases (by omega : k = 0 ∨ k = 1 ∨ k = 2) with rfl | rfl | rfl <;> rfl
      have hsl : ∀ u : World, (Instr.sliceAt 74 (.pointer (some ⟨H + 1 + 1, 0, none⟩)) (some (.int .i64 (A : Int))) none none).run Tryd.prog u = .ok (.slice (some ⟨H + 1 + 1, A, none⟩) (44 - A) (44 - A)) u := fun u => by
        have := slice_arr (P := Tryd.prog) (g := H + 1 + 1) (off := 0) (k := A) Tryd.underlying74 sizes5 (by omega) .i64 u
        rw [Nat.zero_add] at this
        exact this
      have hA40 : A ≤ 40 := by omega
      have HA : Hid (A = 32 + 4 * k ∧ n = p.num k) := ⟨hA, hn⟩
      rw [← hA] at hOr ⊢
      clear hA hn
      go_wp2
      refine wp_region_any (by kernel_rfl) ?_
      change wpAny _ _ _ _ _ _ _ (World.drew _)
      refine any_take 0 rfl (some 23) rfl (.int .i64 (A : Int)) (by kernel_rfl) (by kernel_rfl) (by kernel_rfl) (fun _ _ _ h => h) (Or.inl ⟨by rfl, fun w => by go_simp⟩) ?_
      simp only [Act.put, List.setIfInBounds_toArray, List.set_cons_succ, List.set_cons_zero]
      refine any_take 1 rfl (some 24) rfl (.int .i64 (A : Int)) (by kernel_rfl) (by kernel_rfl) (by kernel_rfl) (fun _ _ _ h => h) (Or.inl ⟨by rfl, fun w => by go_simp⟩) ?_
      simp only [Act.put, List.setIfInBounds_toArray, List.set_cons_succ, List.set_cons_zero]
      refine any_take 2 rfl (some 25) rfl (.slice (some ⟨H + 1 + 1, A, none⟩) (44 - A) (44 - A)) (by kernel_rfl) (by kernel_rfl) (by kernel_rfl) (fun _ _ _ h => h) (Or.inl ⟨by rfl, fun w => by go_simp⟩) ?_
      simp only [Act.put, List.setIfInBounds_toArray, List.set_cons_succ, List.set_cons_zero]
      refine any_take 3 rfl (some 26) rfl (.int .u32 (n : Int)) (by kernel_rfl) (by kernel_rfl) (by kernel_rfl) (fun _ _ _ h => h) (Or.inl ⟨by rfl, fun w => by go_simp⟩) ?_
      simp only [Act.put, List.setIfInBounds_toArray, List.set_cons_succ, List.set_cons_zero]
      refine any_call 4 (by kernel_rfl) rfl rfl (some 27) rfl 35 #[.slice none 0 0, .int .u32 (n : Int)] (by go_simp) (put32_nil n hnl _) ?_
      rintro e w5 ⟨a5, c5, rfl, hB5, hb5⟩
      refine ⟨_, rfl, ?_⟩
      simp only [Act.put, List.setIfInBounds_toArray, List.set_cons_succ, List.set_cons_zero]
      refine any_seq 5 (by rfl) (by kernel_rfl) ?_
      simp only [List.drop_succ_cons, List.drop_zero]
      have hO5 : Blk 74 w5 (H + 1 + 1) ((p.part A).map (Value.int .u8)) := Blk.stays (w := wr.drew) hOr hb5
      have hlp : ((p.part A).map (Value.int .u8)).length = 44 := by rw [List.length_map]; exact Pt.part_len hp A (by omega)
      refine wpList_copy_blk (by rfl) (.tmp 25) (.tmp 27) 27 27 (by rfl) 5 Tryd.underlying27 sizes5 (H + 1 + 1) A (44 - A) (44 - A) _ 4 c5 (by rfl) (by rfl) hO5 (b32 n) 4 hB5 (by decide) (by show 4 = Nat.min 4 (44 - A); simp [Nat.min_def]; omega) (Nat.le_refl 4) (by rw [hlp]; omega) ?_
      intro w6 hO6 hbut6 hsz6
      obtain ⟨hA, hn⟩ := HA.out
      have e1 : splice ((p.part A).map (Value.int .u8)) A (((b32 n).take 4).map (Value.int .u8)) = (p.part (32 + 4 * (k + 1))).map (Value.int .u8) := by
        have h1 := part_step (Pt.enc_len hp) A 4 (by omega) (b32 n) (by rw [hn, hA]; exact Pt.enc_num hp k hlt)
        have h2 : (b32 n).take 4 = b32 n := rfl
        rw [h2, show 32 + 4 * (k + 1) = A + 4 by omega]
        exact h1
      rw [e1] at hO6
      have hbr6 : But (H + 1 + 1) W w6 := (hbr.trans ((But.refl _ _).drew.trans (But.of_below hb5))).trans hbut6
      have HO6 : Hid _ := hO6
      have HBR : Hid _ := hbr6
      clear e1 hO6 hbr6 hO5 hlp hOr hbr hB5 hb5 hbut6 hsz6 hA hn
      go_wp2
      go_roundw
      case rel => exact ⟨k + 1, by omega, by go_num, by have := HA.out.1; go_num, HO6.out, HBR.out⟩
      case measure => simp [intOf]; omega
    · have hk3 : k = 3 := by omega
      subst hk3
      have hfin : (p.part (32 + 4 * 3)).map (Value.int .u8) = p.enc.map (Value.int .u8) := by rw [show 32 + 4 * 3 = 44 from rfl, Pt.part_all hp]
      rw [hfin] at hOr
      clear hfin
      have hEl : (p.enc.map (Value.int .u8)).length = 44 := by rw [List.length_map]; exact Pt.enc_len hp
      have hRr : Blk 74 wr (H + 1) ((List.replicate 44 0).map (Value.int .u8)) := Blk.but hR hbr (by omega)
      obtain ⟨us, hus⟩ : ∃ us, us = p.enc.map (Value.int .u8) := ⟨_, rfl⟩
      have hu1 : ∀ v ∈ us, v.oneCell' = true := hus ▸ int_oneCell _ _
      rw [← hus] at hOr hEl
      have HE : Hid (us = (us.drop 0).take 44) := by show _ = _; rw [List.drop_zero, List.take_of_length_le (by omega)]
      have HF : Hid (us = ((List.replicate 44 (0 : Int)).map (Value.int .u8)).take 0 ++ us ++ ((List.replicate 44 (0 : Int)).map (Value.int .u8)).drop (0 + 44)) := by show _ = _; simp
      have HUS : Hid (us = p.enc.map (Value.int .u8)) := hus
      have HZ : Hid (0 + 44 ≤ ((List.replicate 44 (0 : Int)).map (Value.int .u8)).length) := by show _ ≤ _; decide
      clear hus
      go_wp2_with (first
        | (refine wpList_load_blk (by rfl) (.tmp 3) 74 (by rfl) (H + 1 + 1) 0 44 (by rfl) agg_44 size_44 hOr us HE.out hEl ?_)
        | (refine wpList_store_blk (by rfl) (.tmp 2) (.tmp 31) 74 (by rfl) (H + 1) 0 44 (by rfl) us (by rfl) size_44 hRr hEl HZ.out hu1 us HF.out ?_; intro w7 hR7 hbut7 hsz7))
      refine bodyPost_ret_blk rfl rfl (by rfl) agg_44 size_44 hR7 hEl ⟨by rw [HUS.out], ?_⟩
      rw [hH]
      exact hbW.trans ((hbr.below (by omega) (by omega)).trans (hbut7.below (by omega) (by omega)))

end Go.Proofs.YthbcphalokoknaaDoor
