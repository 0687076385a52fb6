/-
  Package label: labels as plain data, and laws for them.
-/
import Derived.Test.YteocmmmnfbabaaaDoorPRDec
import Derived.Test.YteocmmmnfbabaaaDoorRSum
import Derived.Test.YteocmmmnfbabaaaDoorAll
import Derived.Test.YteocmmmnfbabaaaDoorShaRng
import Derived.Test.YteocmmmnfbabaaaDoorVarsOf
import Derived.Test.YteocmmmnfbabaaaDoorUpT
import Derived.Test.YteocmmmnfbabaaaDoorUpKit
import Derived.Test.YteocmmmnfbabaaaDoorOpens
import Derived.Test.YteocmmmnfbabaaaDoorPOpens
namespace Go.Proofs.YteocmmmnfbabaaaDoor
set_option linter.unusedSimpArgs false
set_option linter.unusedVariables false
set_option maxRecDepth 100000
open Go.RowKit

/-- A label as plain data. -/
structure Lb where
  t : Nat
  p : Pt
  m : List Int

structure Lb.ok (l : Lb) : Prop where
  t : l.t < 4294967296
  p : l.p.ok
  m : ∀ x ∈ l.m, 0 ≤ x ∧ x ≤ 255

/-- Its cells: the number, the root, the map behind a slice. -/
def Lb.vs (l : Lb) (a : Option Addr) (c : Nat) : List Value := .int .u32 (l.t : Int) :: (l.p.vs ++ [.slice a l.m.length c])

theorem Lb.vs_len {l : Lb} (h : l.p.ok) (a : Option Addr) (c : Nat) : (l.vs a c).length = 37 := by simp [Lb.vs, Pt.vs_len h]
theorem Lb.vs_root {l : Lb} (h : l.p.ok) (a : Option Addr) (c : Nat) : l.p.vs = ((l.vs a c).drop 1).take 35 := by
  have := Pt.vs_len h
  simp [Lb.vs, List.take_append_of_le_length, this, List.take_of_length_le]
theorem Lb.vs_txg (l : Lb) (a : Option Addr) (c : Nat) : (l.vs a c)[0]? = some (.int .u32 (l.t : Int)) := rfl
theorem Lb.vs_map {l : Lb} (h : l.p.ok) (a : Option Addr) (c : Nat) : (l.vs a c)[36]? = some (.slice a l.m.length c) := by
  have := Pt.vs_len h
  simp [Lb.vs, List.getElem?_append_right, this]
theorem Lb.vs_one (l : Lb) (a : Option Addr) (c : Nat) : ∀ v ∈ l.vs a c, v.oneCell' = true := by
  intro v hv
  simp only [Lb.vs, List.mem_cons, List.mem_append, List.not_mem_nil, or_false] at hv
  rcases hv with rfl | hv | rfl
  · rfl
  · exact l.p.vs_one v hv
  · rfl

def Lb.zero : Lb := ⟨0, Pt.zero, []⟩
theorem Lb.zero_ok : Lb.zero.ok := ⟨by decide, Pt.zero_ok, by simp [Lb.zero]⟩

theorem agg_label (w : World) : (isAgg 29).run Tryd.prog w = .ok true w := by
  have hfs : Tryd.prog.underlying 29 = some (.struct (Tryd.prog.fieldsOf 29)) := by kernel_rfl
  exact isAgg_struct hfs w
theorem size_label (w : World) : (sizeOf 29).run Tryd.prog w = .ok 37 w := sizeOf_run (by kernel_rfl) w
theorem build_label0 (w : World) : (Instr.build 29 #[]).run Tryd.prog w = .ok (.agg (Lb.zero.vs none 0).toArray) w := by kernel_rfl
theorem alloc_label0 (w : World) : (Instr.alloc 29 true (.tuple #[])).run Tryd.prog w = .ok (.pointer (some ⟨w.heap.size, 0, none⟩)) (w.alloc (.cells (Lb.zero.vs none 0).toArray 29)) := by kernel_rfl
theorem agg_two (w : World) : (isAgg 34).run Tryd.prog w = .ok true w := isAgg_array Tryd.underlying34 w
theorem size_two (w : World) : (sizeOf 34).run Tryd.prog w = .ok 2 w := sizeOf_run (by kernel_rfl) w
theorem agg_32 (w : World) : (isAgg 23).run Tryd.prog w = .ok true w := isAgg_array Tryd.underlying23 w
theorem size_32 (w : World) : (sizeOf 23).run Tryd.prog w = .ok 32 w := sizeOf_run (by kernel_rfl) w

def magicL : List Int := [67, 65, 85, 84]
/-- The 224 bytes ahead of the hash; the 256 bytes. -/
def Lb.body (l : Lb) : List Int := (((magicL ++ b32 l.t) ++ l.p.enc) ++ l.m) ++ List.replicate 108 0
def Lb.bytes (l : Lb) : List Int := l.body ++ shaOf l.body
def Lb.may (l : Lb) : Bool := l.p.may && l.m.length == 64
/-- Encode's answer. -/
def encL (l : Lb) : List Int × Nat := if l.may then (l.bytes, 0) else ([], 1)

theorem magic_rng : ∀ x ∈ magicL, 0 ≤ x ∧ x ≤ 255 := by decide
theorem rng_app {xs ys : List Int} (h1 : ∀ x ∈ xs, 0 ≤ x ∧ x ≤ 255) (h2 : ∀ x ∈ ys, 0 ≤ x ∧ x ≤ 255) : ∀ x ∈ xs ++ ys, 0 ≤ x ∧ x ≤ 255 := fun x hx => (List.mem_append.1 hx).elim (h1 x) (h2 x)
theorem rng_zeros (n : Nat) : ∀ x ∈ List.replicate n (0 : Int), 0 ≤ x ∧ x ≤ 255 := by
  intro x hx
  rw [(List.mem_replicate.1 hx).2]; decide
theorem Lb.body_len {l : Lb} (h : l.p.ok) (hm : l.m.length = 64) : l.body.length = 224 := by simp [Lb.body, magicL, b32_len, Pt.enc_len h, hm]
theorem Lb.body_rng {l : Lb} (h : l.ok) : ∀ x ∈ l.body, 0 ≤ x ∧ x ≤ 255 := rng_app (rng_app (rng_app (rng_app magic_rng (b32_rng _ h.t)) (Pt.enc_rng h.p)) h.m) (rng_zeros _)
theorem Lb.bytes_len {l : Lb} (h : l.p.ok) (hm : l.m.length = 64) : l.bytes.length = 256 := by rw [Lb.bytes, List.length_append, Lb.body_len h hm, shaOf_length]
theorem Lb.bytes_rng {l : Lb} (h : l.ok) : ∀ x ∈ l.bytes, 0 ≤ x ∧ x ≤ 255 := rng_app (Lb.body_rng h) (shaOf_rng _)
theorem Lb.may_parts {l : Lb} (h : l.may = true) : l.p.may = true ∧ l.m.length = 64 := by simpa [Lb.may] using h
theorem encL_rng {l : Lb} (h : l.ok) : ∀ x ∈ (encL l).1, 0 ≤ x ∧ x ≤ 255 := by
  unfold encL
  split
  · exact Lb.bytes_rng h
  · simp

/-- What is copied over noughts. -/
theorem splice_zeros (done ys : List Int) (k n : Nat) (hk : k = done.length) (m : Nat) (hm : n = ys.length + m) :
    splice ((done ++ List.replicate n 0).map (Value.int .u8)) k (ys.map (Value.int .u8)) = ((done ++ ys) ++ List.replicate m 0).map (Value.int .u8) := by
  subst hk hm
  rw [splice_row]
  congr 2
  simp

theorem run_copy_str {P : Program} (w : World) (dT sT ty elem : TypeId) (g o dLen dCap : Nat) (s : ByteArray) (cur : Array Value) (t : TypeId) (cs : List Value)
    (hu : P.underlying dT = some (.slice elem)) (hs : (P.info? elem).map (·.size) = some 1)
    (hg : w.heap[g]? = some (.cells cur t (0, 0))) (hn : cs.length = Nat.min s.size dLen) (hcs : ((s.extract 0 cs.length).data.map fun b => Value.int .u8 b.toNat).toList = cs)
    (hfit : o + cs.length ≤ cur.size) (h1 : ∀ v ∈ cs, v.oneCell' = true) :
    (Builtin.copy_ #[dT, sT] ty #[.slice (some ⟨g, o, none⟩) dLen dCap, .string s]).run P w =
      .ok (goInt cs.length) (w.setRow g (cur.toList.take o ++ cs ++ cur.toList.drop (o + cs.length)).toArray) := by
  have hst := run_storeCells_at P g o t cs 0 cur w hg (by simpa using hfit) h1
  have hz := sizeOf_run hs w
  simp only [Nat.add_zero] at hst
  simp only [Builtin.copy_, run_underlying hu, Builtin.lenOf, Builtin.firstCells, hz, ← hn, Sem.run_bind, Sem.run_pure, Result.andThen_ok, List.getElem?_toArray, List.getElem?_cons_zero, List.getElem?_cons_succ, hcs, hst]

/-- copy(b[off:], s) of a string. -/
theorem wpList_copy_str {P : Program} {w : World} {ops : Array Oper} {rest : List Oper} {o : Oper} {a : Act} {Q : Exit → Act → World → Prop} (hgd : o.guard = none) (d s : Operand) (dT sT : TypeId)
    (ho : o.op = .call { callee := .builtin .copy, args := #[d, s], argTypes := #[dT, sT] }) (elem : TypeId) (hu : P.underlying dT = some (.slice elem)) (hsz : (P.info? elem).map (·.size) = some 1)
    (g off dLen dCap : Nat) (str : ByteArray) (hd : a.eval d = .slice (some ⟨g, off, none⟩) dLen dCap) (hs : a.eval s = .string str)
    {t : TypeId} {cur : List Value} (hg : Blk t w g cur) (cs : List Value) (hn : cs.length = Nat.min str.size dLen) (hcs : ((str.extract 0 cs.length).data.map fun b => Value.int .u8 b.toNat).toList = cs) (hfit : off + cs.length ≤ cur.length) (h1 : ∀ v ∈ cs, v.oneCell' = true)
    (h : ∀ w', Blk t w' g (splice cur off cs) → But g w w' → w'.heap.size = w.heap.size → wpList P ops Q rest (a.put o.dst (goInt cs.length)) w') :
    wpList P ops Q (o :: rest) a w := by
  refine wpList_plain hgd fun K hK => ?_
  have hrun := run_copy_str (P := P) w dT sT o.type elem g off dLen dCap str cur.toArray t cs hu hsz hg hn hcs (by simpa using hfit) h1
  unfold Oper.wp
  simp [execOp, ho, resolve, invoke, builtin, hd, hs, hrun, Result.andThen]
  refine hK _ _ (h _ ?_ ((But.refl g w).setRow _) (by simp [World.setRow]))
  unfold Blk splice
  simpa using setRow_heap w g _ _ t _ hg

theorem wpList_buildL {P : Program} {w : World} {ops : Array Oper} {rest : List Oper} {o : Oper} {a : Act} {Q : Exit → Act → World → Prop} (hw : Region.wanted o (yielded ops a.tmps) = true) (t : TypeId) (ps : List (Nat × Operand)) (ho : o.op = Op.build t ps.toArray) (qs : List (Nat × Value)) (hq : ps.map (fun q => (q.1, a.eval q.2)) = qs) (V : Value) (hr : ∀ w, (Instr.build t qs.toArray).run P w = .ok V w)
    (h : wpList P ops Q rest (a.put o.dst V) w) : wpList P ops Q (o :: rest) a w := by
  refine wpList_step fun K hK => ?_
  rw [if_pos hw]
  have e : ps.toArray.map (fun (i, x) => (i, a.eval x)) = qs.toArray := by rw [List.map_toArray, ← hq]
  unfold Oper.wp execOp
  simp only [ho, Sem.run_bind, Sem.run_pure, Result.andThen_ok, e, hr]
  exact hK _ _ h

theorem bodyPost_ret_blk3 {P : Program} {fn : Func} {R : Ending → World → Prop} {a : Act} {w : World} {p q r : Tmp} {t e : TypeId} {g n : Nat} {us : List Value} {v x : Value} (hf : fn.results = #[.cell p t, .tmp q, .tmp r]) (hd : a.defers = [])
    (hp : a.tmps.getD p undef = .pointer (some ⟨g, 0, none⟩)) (hq : a.tmps.getD q undef = v) (hr : a.tmps.getD r undef = x) (hA : ∀ w, (isAgg t).run P w = .ok true w) (hZ : ∀ w, (sizeOf t).run P w = .ok n w) (hb : Blk e w g us) (hl : us.length = n)
    (hR : R (.returned (.tuple #[.agg us.toArray, v, x])) w) : bodyPost P fn R .ret a w := by
  refine bodyPost_ret_by (v := .tuple #[.agg us.toArray, v, x]) ?_ hd hR
  have hr' := run_load_blk (P := P) (w := w) (off := 0) hA hZ hb (us := us) (by rw [List.drop_zero, List.take_of_length_le (by omega)]) hl
  simp only [Instr.loadAt, Instr.sureAddr, Sem.run_bind, Sem.run_pure, Result.andThen_ok] at hr'
  rw [Array.getD_eq_getD_getElem?] at hp hq hr
  simp [results, hf, hp, hq, hr, asAddr, Sem.run_bind, hr']

end Go.Proofs.YteocmmmnfbabaaaDoor
