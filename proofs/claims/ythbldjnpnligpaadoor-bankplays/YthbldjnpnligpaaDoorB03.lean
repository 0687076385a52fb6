/-
 Pointers as plain data: how they are written and read; no function here.
-/
import Derived.Test.YthbldjnpnligpaaDoorB02
import Derived.Test.YthbldjnpnligpaaDoorB01
import Derived.StillTailTactics
import Derived.Laws.CopyRow
import Derived.Laws.CopyOwn
import Derived.Laws.Cells
import Derived.RegionTactic
namespace Go.Proofs.YthbldjnpnligpaaDoor
set_option linter.unusedSimpArgs false
set_option linter.unusedVariables false
set_option maxRecDepth 100000
open Go.RowKit
structure Pt where
 h : List Int
 b : Nat
 x : Nat
 y : Nat
def Pt.same (p q : Pt) : Bool := p.h == q.h && (p.b == q.b && (p.x == q.x && p.y == q.y))
theorem Pt.same_iff {p q : Pt} : p.same q = true ↔ p = q := by
 obtain ⟨h, b, x, y⟩ := p
 obtain ⟨h', b', x', y'⟩ := q
 simp [Pt.same]
theorem Pt.same_self (p : Pt) : p.same p = true := Pt.same_iff.2 rfl
theorem Pt.same_not {p q : Pt} (h : p ≠ q) : p.same q = false := by
 cases hs : p.same q
 · rfl
 · exact absurd (Pt.same_iff.1 hs) h
structure Pt.ok (p : Pt) : Prop where
 len : p.h.length = 32
 rng : ∀ z ∈ p.h, 0 ≤ z ∧ z ≤ 255
 b : p.b < 4294967296
 x : p.x < 4294967296
 y : p.y < 4294967296
def Pt.vs (p : Pt) : List Value := p.h.map (Value.int .u8) ++ [.int .u32 p.b, .int .u32 p.x, .int .u32 p.y]
def Pt.zero : Pt := ⟨List.replicate 32 0, 0, 0, 0⟩
theorem Pt.zero_ok : Pt.zero.ok := ⟨by decide, by decide, by decide, by decide, by decide⟩
def Pt.may (p : Pt) : Bool := if p.x = 0 then p.y == 0 else !(p.y == p.x)
def Pt.hole (p : Pt) : Bool := p.same Pt.zero
theorem Pt.vs_len {p : Pt} (h : p.ok) : p.vs.length = 35 := by simp [Pt.vs, h.len]
def Pt.enc (p : Pt) : List Int := p.h ++ (b32 p.b ++ (b32 p.x ++ b32 p.y))
def n32 (xs : List Int) : Nat := (take32L xs).1.toNat
end Go.Proofs.YthbldjnpnligpaaDoor

/-
 Arrays of integers that a call has made for itself: a block of cells of one kind.
-/

namespace Go.Proofs.YthbldjnpnligpaaDoor
set_option linter.unusedSimpArgs false
set_option linter.unusedVariables false
set_option maxRecDepth 100000
open Go.RowKit
def Arr (K : IntKind) (t : TypeId) (w : World) (g : Nat) (cur : List Int) : Prop := w.heap[g]? = some (.cells (cur.map (Value.int K)).toArray t (0, 0))
theorem Arr.lt {K : IntKind} {e : TypeId} {w : World} {g : Nat} {cur : List Int} (h : Arr K e w g cur) : g < w.heap.size := by
 unfold Arr at h
 rcases Nat.lt_or_ge g w.heap.size with h1 | h1
 · exact h1
 · rw [Array.getElem?_eq_none h1] at h; cases h
theorem Arr.stays {K : IntKind} {e : TypeId} {w w' : World} {g : Nat} {cur : List Int} (h : Arr K e w g cur) (hb : Below w.heap.size w w') : Arr K e w' g cur := by
 have := h.lt
 unfold Arr at *
 rw [hb.block g this]; exact h
theorem Arr.drew {K : IntKind} {e : TypeId} {w : World} {g : Nat} {cur : List Int} (h : Arr K e w g cur) : Arr K e w.drew g cur := h
theorem Arr.alloc {K : IntKind} {e : TypeId} {w : World} {g : Nat} {cur : List Int} (h : Arr K e w g cur) (o : Obj) : Arr K e (w.alloc o) g cur := by
 have := h.lt
 unfold Arr at *
 rw [Below.heap_alloc _ _ _ this]; exact h
theorem Arr.new {K : IntKind} {e : TypeId} {w : World} {cur : List Int} {cs : Array Value} (hc : cs = (cur.map (Value.int K)).toArray) : Arr K e (w.alloc (.cells cs e)) w.heap.size cur := by
 subst hc
 unfold Arr World.alloc
 simp
theorem Arr.newAt {K : IntKind} {e : TypeId} {w : World} {g : Nat} {cur : List Int} {cs : Array Value} (hg : g = w.heap.size) (hc : cs = (cur.map (Value.int K)).toArray) : Arr K e (w.alloc (.cells cs e)) g cur := by
 subst hg; exact Arr.new hc
theorem Arr.cell {K : IntKind} {e : TypeId} {w : World} {g : Nat} {cur : List Int} (h : Arr K e w g cur) (k : Nat) (hk : k < cur.length) : w.cell? ⟨g, k, none⟩ = some (.int K (cur.getD k 0)) := by
 unfold Arr at h
 simp [World.cell?, h, hk, List.getD]
theorem Arr.free {K : IntKind} {e : TypeId} {w : World} {g : Nat} {cur : List Int} (h : Arr K e w g cur) (k : Nat) : w.frozen? ⟨g, k, none⟩ = false := by
 unfold Arr at h
 simp [World.frozen?, h]
theorem Arr.set {K : IntKind} {e : TypeId} {w : World} {g : Nat} {cur : List Int} (h : Arr K e w g cur) (k : Nat) (y : Int) : Arr K e (w.setCell ⟨g, k, none⟩ (.int K y)) g (cur.set k y) := by
 have hlt := h.lt
 unfold Arr at *
 simp [World.setCell, Array.getElem?_modify, h, List.map_set]
theorem Arr.other {K : IntKind} {e : TypeId} {w : World} {g g' : Nat} {cur : List Int} (h : Arr K e w g cur) (hne : g ≠ g') (k : Nat) (v : Value) : Arr K e (w.setCell ⟨g', k, none⟩ v) g cur := by
 unfold Arr at *
 rw [Below.heap_setCell _ _ _ _ (by simpa using hne)]; exact h
theorem set_at {α : Type} (l r : List α) (x y : α) (n : Nat) (h : n = l.length) : (l ++ x :: r).set n y = (l ++ [y]) ++ r := by
 subst h; simp
def Blk (t : TypeId) (w : World) (g : Nat) (vs : List Value) : Prop := w.heap[g]? = some (.cells vs.toArray t (0, 0))
theorem Arr.blk {K : IntKind} {e : TypeId} {w : World} {g : Nat} {cur : List Int} (h : Arr K e w g cur) : Blk e w g (cur.map (Value.int K)) := h
theorem Blk.arr {K : IntKind} {e : TypeId} {w : World} {g : Nat} {cur : List Int} (h : Blk e w g (cur.map (Value.int K))) : Arr K e w g cur := h
theorem Blk.lt {e : TypeId} {w : World} {g : Nat} {vs : List Value} (h : Blk e w g vs) : g < w.heap.size := by
 unfold Blk at h
 rcases Nat.lt_or_ge g w.heap.size with h1 | h1
 · exact h1
 · rw [Array.getElem?_eq_none h1] at h; cases h
theorem Blk.stays {e : TypeId} {w w' : World} {g : Nat} {vs : List Value} (h : Blk e w g vs) (hb : Below w.heap.size w w') : Blk e w' g vs := by
 have := h.lt
 unfold Blk at *
 rw [hb.block g this]; exact h
theorem Blk.drew {e : TypeId} {w : World} {g : Nat} {vs : List Value} (h : Blk e w g vs) : Blk e w.drew g vs := h
theorem Blk.newAt {e : TypeId} {w : World} {g : Nat} {vs : List Value} {cs : Array Value} (hg : g = w.heap.size) (hc : cs = vs.toArray) : Blk e (w.alloc (.cells cs e)) g vs := by
 subst hc; subst hg
 unfold Blk World.alloc
 simp
theorem Blk.alloc {e : TypeId} {w : World} {g : Nat} {vs : List Value} (h : Blk e w g vs) (o : Obj) : Blk e (w.alloc o) g vs := by
 have := h.lt
 unfold Blk at *
 rw [Below.heap_alloc _ _ _ this]; exact h
theorem Blk.cell {e : TypeId} {w : World} {g : Nat} {vs : List Value} (h : Blk e w g vs) (k : Nat) : w.cell? ⟨g, k, none⟩ = vs[k]? := by
 unfold Blk at h
 simp [World.cell?, h]
theorem Blk.free {e : TypeId} {w : World} {g : Nat} {vs : List Value} (h : Blk e w g vs) (k : Nat) : w.frozen? ⟨g, k, none⟩ = false := by
 unfold Blk at h
 simp [World.frozen?, h]
structure But (g : Nat) (w w' : World) : Prop where
 os : w'.os = w.os
 tape : w'.tape = w.tape
 output : w'.output = w.output
 size : w.heap.size ≤ w'.heap.size
 block : ∀ k, k ≠ g → k < w.heap.size → w'.heap[k]? = w.heap[k]?
theorem But.refl (g : Nat) (w : World) : But g w w := ⟨rfl, rfl, rfl, Nat.le_refl _, fun _ _ _ => rfl⟩
theorem But.trans {g : Nat} {a b c : World} (h : But g a b) (k : But g b c) : But g a c :=
 ⟨k.os.trans h.os, k.tape.trans h.tape, k.output.trans h.output, Nat.le_trans h.size k.size, fun i hi hl => (k.block i hi (Nat.lt_of_lt_of_le hl h.size)).trans (h.block i hi hl)⟩
theorem But.drew {g : Nat} {a b : World} (h : But g a b) : But g a b.drew := ⟨h.os, h.tape, h.output, h.size, h.block⟩
theorem But.of_below {g : Nat} {a b : World} (h : Below a.heap.size a b) : But g a b := ⟨h.os, h.tape, h.output, h.size, fun k _ hl => h.block k hl⟩
theorem But.below {g B : Nat} {a b : World} (h : But g a b) (hB : B ≤ g) (hs : B ≤ a.heap.size) : Below B a b := ⟨h.os, h.tape, h.output, h.size, fun k hk => h.block k (by omega) (by omega)⟩
theorem But.setCell {g : Nat} {a b : World} (h : But g a b) (k : Nat) (v : Value) : But g a (b.setCell ⟨g, k, none⟩ v) :=
 h.trans ⟨rfl, rfl, rfl, by simp, fun i hi _ => Below.heap_setCell _ _ _ _ (by simpa using hi)⟩
theorem But.setRow {g : Nat} {a b : World} (h : But g a b) (cs : Array Value) : But g a (b.setRow g cs) :=
 h.trans ⟨rfl, rfl, rfl, by simp [World.setRow], fun i hi _ => by simp only [World.setRow, Array.getElem?_modify, if_neg (Ne.symm hi)]⟩
theorem Blk.but {e : TypeId} {w w' : World} {g g' : Nat} {vs : List Value} (h : Blk e w g vs) (hb : But g' w w') (hne : g ≠ g') : Blk e w' g vs := by
 have := h.lt
 unfold Blk at *
 rw [hb.block g hne this]; exact h
theorem Bs.but {w w' : World} {a : Option Addr} {c : Nat} {xs : List Int} {g : Nat} (h : Bs w a c xs) (hb : But g w w') (hne : xs ≠ [] → ∀ b, a = some b → b.block ≠ g) : Bs w' a c xs := by
 refine ⟨h.rng, h.cap, h.capm, h.nul, ?_⟩
 rcases h.lay with h0 | ⟨b, off, rfl, hc⟩
 · exact .inl h0
 · refine .inr ⟨b, off, rfl, fun i hi => ?_⟩
   have h1 := hc i hi
   have hlt : b < w.heap.size := by
    rcases Nat.lt_or_ge b w.heap.size with h2 | h2
    · exact h2
    · simp [World.cell?, Array.getElem?_eq_none h2] at h1
   rw [World.cell?_of_block (w := w) (hb.block b (hne (fun h => by rw [h] at hi; simp at hi) _ rfl) hlt)]
   exact h1
theorem isAgg_array {P : Program} {t e : TypeId} {n : Nat} (h : P.underlying t = some (.array n e)) (w : World) : (isAgg t).run P w = .ok true w := by
 simp [isAgg, run_underlying h, go_sem]
theorem isAgg_struct {P : Program} {t : TypeId} {fs} (h : P.underlying t = some (.struct fs)) (w : World) : (isAgg t).run P w = .ok true w := by
 simp [isAgg, run_underlying h, go_sem]
theorem sizeOf_run {P : Program} {t : TypeId} {n : Nat} (h : (P.info? t).map (·.size) = some n) (w : World) : (sizeOf t).run P w = .ok n w := by
 obtain ⟨i, hi, h1⟩ := Option.map_eq_some_iff.1 h
 simp [sizeOf, typeInfo, hi, h1, go_sem]
theorem run_load_blk {P : Program} {w : World} {t e : TypeId} {g off n : Nat} {vs us : List Value} (hA : ∀ w, (isAgg t).run P w = .ok true w) (hZ : ∀ w, (sizeOf t).run P w = .ok n w)
 (hb : Blk e w g vs) (hu : us = (vs.drop off).take n) (hl : us.length = n) : (Instr.loadAt t (.pointer (some ⟨g, off, none⟩))).run P w = .ok (.agg us.toArray) w := by
 have h := run_loadCells_list (P := P) w ⟨g, off, none⟩ us (fun j v hj => by
  have hadd : (⟨g, off, none⟩ : Addr).add j = ⟨g, off + j, none⟩ := by unfold Addr.add; split <;> simp_all
  rw [hadd, hb.cell]
  have hjl : j < n := by
   rcases Nat.lt_or_ge j n with h1 | h1
   · exact h1
   · rw [List.getElem?_eq_none (by omega)] at hj; cases hj
  rw [hu, List.getElem?_take_of_lt hjl, List.getElem?_drop] at hj
  exact hj)
 rw [hl] at h
 simp [Instr.loadAt, Instr.sureAddr, loadVar, hA, hZ, h, Sem.run_bind]
theorem run_store_blk {P : Program} {w : World} {t e : TypeId} {g off n : Nat} {vs us : List Value} (hZ : ∀ w, (sizeOf t).run P w = .ok n w)
 (hb : Blk e w g vs) (hl : us.length = n) (hle : off + n ≤ vs.length) (h1 : ∀ v ∈ us, v.oneCell' = true) :
 (Instr.storeAt t (.pointer (some ⟨g, off, none⟩)) (.agg us.toArray)).run P w = .ok () (w.setRow g (vs.take off ++ us ++ vs.drop (off + n)).toArray) := by
 have h := run_storeCells_at (P := P) g off e us 0 vs.toArray w hb (by simp; omega) h1
 simp only [Nat.add_zero, hl] at h
 simp [Instr.storeAt, Instr.sureAddr, storeVar, hZ, hl, h, Sem.run_bind, Value.cells]
theorem wpList_load_blk {P : Program} {w : World} {ops : Array Oper} {rest : List Oper} {o : Oper} {a : Act} {Q : Exit → Act → World → Prop} (hgd : o.guard = none) (x : Operand) (t : TypeId) (ho : o.op = Op.load t x)
 (g off n : Nat) (hx : a.eval x = .pointer (some ⟨g, off, none⟩)) (hA : ∀ w, (isAgg t).run P w = .ok true w) (hZ : ∀ w, (sizeOf t).run P w = .ok n w) {e : TypeId} {vs : List Value} (hb : Blk e w g vs)
 (us : List Value) (hu : us = (vs.drop off).take n) (hl : us.length = n) (h : wpList P ops Q rest (a.put o.dst (.agg us.toArray)) w) : wpList P ops Q (o :: rest) a w := by
 refine wpList_plain hgd fun K hK => ?_
 have hr := run_load_blk (P := P) (w := w) hA hZ hb hu hl
 unfold Oper.wp execOp
 simp only [ho, hx, Sem.run_bind, Sem.run_pure, Result.andThen_ok, hr]
 exact hK _ _ h
theorem wpList_store_blk {P : Program} {w : World} {ops : Array Oper} {rest : List Oper} {o : Oper} {a : Act} {Q : Exit → Act → World → Prop} (hgd : o.guard = none) (x y : Operand) (t : TypeId) (ho : o.op = Op.store t x y)
 (g off n : Nat) (hx : a.eval x = .pointer (some ⟨g, off, none⟩)) (us : List Value) (hy : a.eval y = .agg us.toArray) (hZ : ∀ w, (sizeOf t).run P w = .ok n w) {e : TypeId} {vs : List Value} (hb : Blk e w g vs)
 (hl : us.length = n) (hle : off + n ≤ vs.length) (h1 : ∀ v ∈ us, v.oneCell' = true) (ws : List Value) (hw : ws = vs.take off ++ us ++ vs.drop (off + n))
 (h : ∀ w', Blk e w' g ws → But g w w' → w'.heap.size = w.heap.size → wpList P ops Q rest (a.put o.dst undef) w') : wpList P ops Q (o :: rest) a w := by
 refine wpList_plain hgd fun K hK => ?_
 have hr := run_store_blk (P := P) (w := w) hZ hb hl hle h1
 unfold Oper.wp execOp
 simp only [ho, hx, hy, Sem.run_bind, Sem.run_pure, Result.andThen_ok, hr]
 refine hK _ _ (h _ ?_ ((But.refl g w).setRow _) (by simp [World.setRow]))
 rw [hw]
 exact setRow_heap w g _ _ e _ hb
theorem int_oneCell (K : IntKind) (l : List Int) : ∀ v ∈ l.map (Value.int K), v.oneCell' = true := by
 intro v hv
 obtain ⟨x, _, rfl⟩ := List.mem_map.1 hv
 rfl
theorem bodyPost_ret_blk {P : Program} {fn : Func} {R : Ending → World → Prop} {a : Act} {w : World} {p : Tmp} {t e : TypeId} {g n : Nat} {us : List Value} (hf : fn.results = #[.cell p t]) (hd : a.defers = [])
 (hp : a.tmps.getD p undef = .pointer (some ⟨g, 0, none⟩)) (hA : ∀ w, (isAgg t).run P w = .ok true w) (hZ : ∀ w, (sizeOf t).run P w = .ok n w) (hb : Blk e w g us) (hl : us.length = n)
 (hR : R (.returned (.agg us.toArray)) w) : bodyPost P fn R .ret a w := by
 refine bodyPost_ret_by (v := .agg us.toArray) ?_ hd hR
 have hr := run_load_blk (P := P) (w := w) (off := 0) hA hZ hb (us := us) (by rw [List.drop_zero, List.take_of_length_le (by omega)]) hl
 simp only [Instr.loadAt, Instr.sureAddr, Sem.run_bind, Sem.run_pure, Result.andThen_ok] at hr
 rw [Array.getD_eq_getD_getElem?] at hp
 simp [results, hf, hp, asAddr, Sem.run_bind, hr]
def Tab (K : IntKind) (w : World) (g : Nat) (zs : List Int) : Prop := ∀ i, i < zs.length → w.cell? ⟨g, i, none⟩ = some (.int K (zs.getD i 0))
theorem Tab.lt {K : IntKind} {w : World} {g : Nat} {zs : List Int} (h : Tab K w g zs) (hp : 0 < zs.length) : g < w.heap.size := by
 have h1 := h 0 hp
 rcases Nat.lt_or_ge g w.heap.size with h2 | h2
 · exact h2
 · simp [World.cell?, Array.getElem?_eq_none h2] at h1
theorem Tab.but {K : IntKind} {w w' : World} {g g' : Nat} {zs : List Int} (h : Tab K w g zs) (hb : But g' w w') (hne : g ≠ g') : Tab K w' g zs := fun i hi => by
 have hlt := h.lt (Nat.lt_of_le_of_lt (Nat.zero_le _) hi)
 rw [World.cell?_of_block (w := w) (hb.block g hne hlt)]
 exact h i hi
theorem Tab.stays {K : IntKind} {w w' : World} {g : Nat} {zs : List Int} (h : Tab K w g zs) (hb : Below w.heap.size w w') : Tab K w' g zs := fun i hi => by
 have hlt := h.lt (Nat.lt_of_le_of_lt (Nat.zero_le _) hi)
 rw [World.cell?_of_block (w := w) (hb.block g hlt)]
 exact h i hi
theorem Tab.below {K : IntKind} {w w' : World} {g B : Nat} {zs : List Int} (h : Tab K w g zs) (hb : Below B w w') (hg : g < B) : Tab K w' g zs := fun i hi => by
 rw [World.cell?_of_block (w := w) (hb.block g hg)]
 exact h i hi
theorem run_load_tab {P : Program} {w : World} {t : TypeId} {K : IntKind} {g n : Nat} {zs : List Int} (hA : ∀ w, (isAgg t).run P w = .ok true w) (hZ : ∀ w, (sizeOf t).run P w = .ok n w)
 (hb : Tab K w g zs) (hl : zs.length = n) : (Instr.loadAt t (.pointer (some ⟨g, 0, none⟩))).run P w = .ok (.agg (zs.map (Value.int K)).toArray) w := by
 have h := run_loadCells_list (P := P) w ⟨g, 0, none⟩ (zs.map (Value.int K)) (fun j v hj => by
  have hadd : (⟨g, 0, none⟩ : Addr).add j = ⟨g, j, none⟩ := by unfold Addr.add; split <;> simp_all
  rw [hadd]
  have hjl : j < zs.length := by
   rcases Nat.lt_or_ge j zs.length with h1 | h1
   · exact h1
   · rw [List.getElem?_eq_none (by simpa using h1)] at hj; cases hj
  rw [hb j hjl]
  simpa [List.getD, hjl] using hj)
 rw [List.length_map, hl] at h
 simp [Instr.loadAt, Instr.sureAddr, loadVar, hA, hZ, h, Sem.run_bind]
theorem index_agg {P : Program} {t e : TypeId} {n : Nat} {cs : Array Value} {K : IntKind} {j : Nat} {x : Value} (ht : P.underlying t = some (.array n e)) (he : P.underlying e = some (.int K)) (hs : (P.info? e).map (·.size) = some 1) (hj : j < n) (hx : cs[j]? = some x) (K' : IntKind) (w : World) :
 (Instr.index t (.agg cs) (.int K' (j : Int))).run P w = .ok x w := by
 have hz := sizeOf_run hs w
 have hb : (0 : Int) ≤ (j : Int) ∧ (j : Int) < (n : Int) := by omega
 simp [Instr.index, asIntOf, run_underlying ht, hz, hb, part, isAgg, run_underlying he, hx, Sem.run_bind]
 omega
theorem Bs.fromIn {P : Program} (u0 : World) (a : Option Addr) (c : Nat) (xs : List Int) (t e : TypeId) (ht : P.underlying t = some (.slice e)) (hs : (P.info? e).map (·.size) = some 1) (he : P.elem t = e) (k : Nat) (hk : k ≤ xs.length) (hc : xs.length ≤ c) :
 ∃ a' c', (∀ (w' : World) (K : IntKind), (Instr.slice t (.slice a xs.length c) (some (.int K (k : Int))) none none).run P w' = .ok (.slice a' (xs.length - k) c') w') ∧ (∀ u, Bs u a c xs → Bs u a' c' (xs.drop k)) ∧
   ∀ x', a' = some x' → ∃ x, a = some x ∧ x'.block = x.block := by
 have hz : (sizeOf e).run P u0 = .ok 1 u0 := by
  obtain ⟨i, hi, h1⟩ := Option.map_eq_some_iff.1 hs
  simp [sizeOf, typeInfo, hi, h1, go_sem]
 obtain ⟨a', c', hr, hB⟩ := Bs.fromAll (P := P) a c xs t e ht hs he k hk
 refine ⟨a', c', hr, hB, fun x' hx' => ?_⟩
 have h1 := hr u0 .i64
 rw [run_slice_l u0 t a xs.length c (by rw [he]; exact ht) .i64 k (by omega) (by omega), he, hz] at h1
 simp [Result.andThen, sliced] at h1
 obtain ⟨h2, h3⟩ := h1
 rw [hx'] at h2
 split at h2
 · exact ⟨x', h2, rfl⟩
 · obtain ⟨x, hx, rfl⟩ := Option.map_eq_some_iff.1 h2
   refine ⟨x, hx, ?_⟩
   unfold Addr.add
   split <;> rfl
theorem wpList_copy_blk {P : Program} {w : World} {ops : Array Oper} {rest : List Oper} {o : Oper} {a : Act} {Q : Exit → Act → World → Prop} (hgd : o.guard = none) (d s : Operand) (dT sT : TypeId)
 (ho : o.op = .call { callee := .builtin .copy, args := #[d, s], argTypes := #[dT, sT] }) (elem : TypeId) (hu : P.underlying dT = some (.slice elem)) (hsz : (P.info? elem).map (·.size) = some 1)
 (g off dLen dCap : Nat) (sp : Option Addr) (sLen sCap : Nat) (hd : a.eval d = .slice (some ⟨g, off, none⟩) dLen dCap) (hs : a.eval s = .slice sp sLen sCap)
 {t : TypeId} {cur : List Value} (hg : Blk t w g cur) (ys : List Int) (n : Nat) (hB : Bs w sp sCap ys) (hpos : 0 < n) (hn : n = Nat.min sLen dLen) (hle : n ≤ ys.length) (hfit : off + n ≤ cur.length)
 (h : ∀ w', Blk t w' g (splice cur off ((ys.take n).map (Value.int .u8))) → But g w w' → w'.heap.size = w.heap.size → wpList P ops Q rest (a.put o.dst (goInt n)) w') :
 wpList P ops Q (o :: rest) a w := by
 have hlen : ((ys.take n).map (Value.int .u8)).length = n := by simp; omega
 obtain ⟨b, boff, rfl, hc⟩ := hB.cell (by omega)
 have hsrc := Bs.srcCells hc
 refine wpList_copy_own hgd d s dT sT ho elem hu hsz g off dLen dCap ⟨b, boff, none⟩ sLen sCap hd hs cur.toArray t hg ((ys.take n).map (Value.int .u8)) (by rw [hlen]; exact hn) ?_ (by rw [hlen]; simpa using hfit) (int_oneCell _ _) ?_
 · intro j v hj
   refine hsrc j v ?_
   have hjl : j < n := by
    rcases Nat.lt_or_ge j n with h1 | h1
    · exact h1
    · rw [List.getElem?_eq_none (by omega)] at hj; cases hj
   rw [List.map_take, List.getElem?_take_of_lt hjl] at hj
   exact hj
 · rw [hlen]
   refine h _ ?_ ((But.refl g w).setRow _) (by simp [World.setRow])
   unfold Blk splice
   rw [hlen]
   simpa using setRow_heap w g _ _ t _ hg
end Go.Proofs.YthbldjnpnligpaaDoor

/-
 More laws over blocks.
-/

namespace Go.Proofs.YthbldjnpnligpaaDoor
set_option linter.unusedSimpArgs false
set_option linter.unusedVariables false
set_option maxRecDepth 100000
open Go.RowKit
theorem wpList_load_tab {P : Program} {w : World} {ops : Array Oper} {rest : List Oper} {o : Oper} {a : Act} {Q : Exit → Act → World → Prop} (hgd : o.guard = none) (x : Operand) (t : TypeId) (ho : o.op = Op.load t x)
 (g n : Nat) (hx : a.eval x = .pointer (some ⟨g, 0, none⟩)) (hA : ∀ w, (isAgg t).run P w = .ok true w) (hZ : ∀ w, (sizeOf t).run P w = .ok n w) {K : IntKind} {zs : List Int} (hb : Tab K w g zs)
 (hl : zs.length = n) (h : wpList P ops Q rest (a.put o.dst (.agg (zs.map (Value.int K)).toArray)) w) : wpList P ops Q (o :: rest) a w := by
 refine wpList_plain hgd fun K hK => ?_
 have hr := run_load_tab (P := P) (w := w) hA hZ hb hl
 unfold Oper.wp execOp
 simp only [ho, hx, Sem.run_bind, Sem.run_pure, Result.andThen_ok, hr]
 exact hK _ _ h
theorem slice_arr {P : Program} {t e : TypeId} {n g off k : Nat} (ht : P.underlying t = some (.array n e)) (hs : (P.info? e).map (·.size) = some 1) (hk : k < n) (K : IntKind) (w : World) :
 (Instr.sliceAt t (.pointer (some ⟨g, off, none⟩)) (some (.int K (k : Int))) none none).run P w = .ok (.slice (some ⟨g, off + k, none⟩) (n - k) (n - k)) w := by
 have hz := sizeOf_run hs w
 have hadd : (⟨g, off, none⟩ : Addr).add k = ⟨g, off + k, none⟩ := by unfold Addr.add; split <;> simp_all
 have hb : (0 : Int) ≤ (k : Int) ∧ (k : Int) ≤ (n : Int) := by omega
 have hne : ¬ n = k := by omega
 simp [Instr.sliceAt, run_underlying ht, hz, Instr.sureAddr, Instr.sliceBounds, Instr.sliceBound, asIntOf, hb, hne, hadd, Sem.run_bind]
 intro h; omega
theorem Blk.set {e : TypeId} {w : World} {g : Nat} {vs : List Value} (h : Blk e w g vs) (k : Nat) (x : Value) : Blk e (w.setCell ⟨g, k, none⟩ x) g (vs.set k x) := by
 have hlt := h.lt
 unfold Blk at *
 simp [World.setCell, Array.getElem?_modify, h]
theorem step_load_blk {P : Program} {o : Oper} {a : Act} {w : World} {K : Act → World → Prop} {Q : Exit → Act → World → Prop} (x : Operand) (t : TypeId) (ho : o.op = Op.load t x)
 (g off n : Nat) (hx : a.eval x = .pointer (some ⟨g, off, none⟩)) (hA : ∀ w, (isAgg t).run P w = .ok true w) (hZ : ∀ w, (sizeOf t).run P w = .ok n w) {e : TypeId} {vs : List Value} (hb : Blk e w g vs)
 (us : List Value) (hu : us = (vs.drop off).take n) (hl : us.length = n) (h : K (a.put o.dst (.agg us.toArray)) w) :
 Oper.wp P o a w K Q := by
 have hr := run_load_blk (P := P) (w := w) hA hZ hb hu hl
 unfold Oper.wp execOp
 simp only [ho, hx, Sem.run_bind, Sem.run_pure, Result.andThen_ok, hr]
 exact h
theorem step_store_blk {P : Program} {o : Oper} {a : Act} {w : World} {K : Act → World → Prop} {Q : Exit → Act → World → Prop} (x y : Operand) (t : TypeId) (ho : o.op = Op.store t x y)
 (g off n : Nat) (hx : a.eval x = .pointer (some ⟨g, off, none⟩)) (us : List Value) (hy : a.eval y = .agg us.toArray) (hZ : ∀ w, (sizeOf t).run P w = .ok n w) {e : TypeId} {vs : List Value} (hb : Blk e w g vs)
 (hl : us.length = n) (hle : off + n ≤ vs.length) (h1 : ∀ v ∈ us, v.oneCell' = true) (ws : List Value) (hw : ws = vs.take off ++ us ++ vs.drop (off + n))
 (h : ∀ w', Blk e w' g ws → But g w w' → w'.heap.size = w.heap.size → K (a.put o.dst undef) w') :
 Oper.wp P o a w K Q := by
 have hr := run_store_blk (P := P) (w := w) hZ hb hl hle h1
 unfold Oper.wp execOp
 simp only [ho, hx, hy, Sem.run_bind, Sem.run_pure, Result.andThen_ok, hr]
 refine h _ ?_ ((But.refl g w).setRow _) (by simp [World.setRow])
 rw [hw]
 exact setRow_heap w g _ _ e _ hb
section
variable {P : Program} {md : Region.Mode} {ops : Array Oper} {Q : Exit → Act → World → Prop} {fuel : Nat} {listed : Array Bool} {a : Act} {w : World}
theorem any_take (i : Nat) {o : Oper} (ho : ops[i]? = some o) (d : Option Tmp) (hd : o.dst = d) (v : Value) (hs : Region.noSelect ops = true) (hf : Region.free md ops listed i = true) (hr : (Region.ready md ops listed).contains i = true)
 (hQ : ∀ c a w, Q (.panic c) (a.put d v) w → Q (.panic c) a w) (hy : Yields P ops o v a) (h : wpAny P md ops Q fuel (listed.setIfInBounds i true) (a.put d v) w) : wpAny P md ops Q (fuel + 1) listed a w := by
 subst hd
 exact wpAny_take ho hs hf hr hQ hy h
theorem any_load (i : Nat) (hr : Region.ready md ops listed = [i]) {o : Oper} (ho : ops[i]? = some o) (hg : o.guard = none) (d : Option Tmp) (hd : o.dst = d) (x : Operand) (t : TypeId) (hop : o.op = Op.load t x)
 (g off n : Nat) (hx : a.eval x = .pointer (some ⟨g, off, none⟩)) (hA : ∀ w, (isAgg t).run P w = .ok true w) (hZ : ∀ w, (sizeOf t).run P w = .ok n w) {e : TypeId} {vs : List Value} (hb : Blk e w g vs)
 (us : List Value) (hu : us = (vs.drop off).take n) (hl : us.length = n) (h : wpAny P md ops Q fuel (listed.setIfInBounds i true) (a.put d (.agg us.toArray)) w) :
 wpAny P md ops Q (fuel + 1) listed a w := by
 refine wpAny_ready (rs := [i]) hr (by simp) ?_
 refine AllReady.cons ho (fun K hK => ?_) AllReady.nil
 rw [if_pos (by simp [Region.wanted, hg])]
 exact step_load_blk x t hop g off n hx hA hZ hb us hu hl (hK _ _ (hd ▸ h))
theorem any_loads (i j : Nat) (hr : Region.ready md ops listed = [i, j]) {o o' : Oper} (ho : ops[i]? = some o) (ho' : ops[j]? = some o') (hg : o.guard = none) (hg' : o'.guard = none) (d d' : Option Tmp) (hd : o.dst = d) (hd' : o'.dst = d')
 (x x' : Operand) (t t' : TypeId) (hop : o.op = Op.load t x) (hop' : o'.op = Op.load t' x') (g off n g' off' n' : Nat) (hx : a.eval x = .pointer (some ⟨g, off, none⟩)) (hx' : a.eval x' = .pointer (some ⟨g', off', none⟩))
 (hA : ∀ w, (isAgg t).run P w = .ok true w) (hZ : ∀ w, (sizeOf t).run P w = .ok n w) (hA' : ∀ w, (isAgg t').run P w = .ok true w) (hZ' : ∀ w, (sizeOf t').run P w = .ok n' w)
 {e e' : TypeId} {vs vs' : List Value} (hb : Blk e w g vs) (hb' : Blk e' w g' vs')
 (us us' : List Value) (hu : us = (vs.drop off).take n) (hl : us.length = n) (hu' : us' = (vs'.drop off').take n') (hl' : us'.length = n')
 (h1 : wpAny P md ops Q fuel (listed.setIfInBounds i true) (a.put d (.agg us.toArray)) w) (h2 : wpAny P md ops Q fuel (listed.setIfInBounds j true) (a.put d' (.agg us'.toArray)) w) :
 wpAny P md ops Q (fuel + 1) listed a w := by
 refine wpAny_ready (rs := [i, j]) hr (by simp) ?_
 refine AllReady.cons ho (fun K hK => ?_) (AllReady.cons ho' (fun K hK => ?_) AllReady.nil)
 · rw [if_pos (by simp [Region.wanted, hg])]
   exact step_load_blk x t hop g off n hx hA hZ hb us hu hl (hK _ _ (hd ▸ h1))
 · rw [if_pos (by simp [Region.wanted, hg'])]
   exact step_load_blk x' t' hop' g' off' n' hx' hA' hZ' hb' us' hu' hl' (hK _ _ (hd' ▸ h2))
theorem any_store (i : Nat) (hr : Region.ready md ops listed = [i]) {o : Oper} (ho : ops[i]? = some o) (hg : o.guard = none) (d : Option Tmp) (hd : o.dst = d) (x y : Operand) (t : TypeId) (hop : o.op = Op.store t x y)
 (g off n : Nat) (hx : a.eval x = .pointer (some ⟨g, off, none⟩)) (us : List Value) (hy : a.eval y = .agg us.toArray) (hZ : ∀ w, (sizeOf t).run P w = .ok n w) {e : TypeId} {vs : List Value} (hb : Blk e w g vs)
 (hl : us.length = n) (hle : off + n ≤ vs.length) (h1 : ∀ v ∈ us, v.oneCell' = true) (ws : List Value) (hw : ws = vs.take off ++ us ++ vs.drop (off + n))
 (h : ∀ w', Blk e w' g ws → But g w w' → w'.heap.size = w.heap.size → wpAny P md ops Q fuel (listed.setIfInBounds i true) (a.put d undef) w') :
 wpAny P md ops Q (fuel + 1) listed a w := by
 refine wpAny_ready (rs := [i]) hr (by simp) ?_
 refine AllReady.cons ho (fun K hK => ?_) AllReady.nil
 rw [if_pos (by simp [Region.wanted, hg])]
 exact step_store_blk x y t hop g off n hx us hy hZ hb hl hle h1 ws hw (fun w' k1 k2 k3 => hK _ _ (hd ▸ h w' k1 k2 k3))
theorem any_call (i : Nat) (hr : Region.ready md ops listed = [i]) {o : Oper} (ho : ops[i]? = some o) (hg : o.guard = none) (d : Option Tmp) (hd : o.dst = d) (f : FuncId) (args : Array Value)
 (hv : (execOp a.eval o).run P w = .ok (.enter f args) w) {R : Ending → World → Prop} (hc : Calls P f args w R) (h : ∀ e w', R e w' → ∃ v, e = .returned v ∧ wpAny P md ops Q fuel (listed.setIfInBounds i true) (a.put d v) w') :
 wpAny P md ops Q (fuel + 1) listed a w := by
 refine wpAny_ready (rs := [i]) hr (by simp) ?_
 refine AllReady.cons ho (fun K hK => ?_) AllReady.nil
 rw [if_pos (by simp [Region.wanted, hg])]
 unfold Oper.wp
 rw [hv, Oper.upon_enter]
 refine hc.mono fun e w' hR => ?_
 obtain ⟨v, rfl, hw⟩ := h e w' hR
 exact hK _ _ (hd ▸ hw)
theorem any_seq (n : Nat) (hf : fuel = ops.size - n) (hs : Region.seqB md ops fuel n listed = true) (h : wpList P ops Q (ops.toList.drop n) a w) : wpAny P md ops Q fuel listed a w := by
 have hl : (ops.toList.drop n).length = fuel := by rw [hf]; simp
 have := wpAny_of_seq (md := md) (Q' := Q) (ops.toList.drop n) n listed a w (fun j => by simp [List.getElem?_drop]) (by rw [hl]; exact hs) h
 rwa [hl] at this
end
end Go.Proofs.YthbldjnpnligpaaDoor
