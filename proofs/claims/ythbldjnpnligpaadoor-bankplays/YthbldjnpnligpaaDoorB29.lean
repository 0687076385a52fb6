/-
 What the document's bank wants of laws of its own.
-/
import Derived.Test.YthbldjnpnligpaaDoorB28
namespace Go.Proofs.YthbldjnpnligpaaDoor
set_option linter.unusedSimpArgs false
set_option linter.unusedVariables false
set_option maxRecDepth 100000
open Go.RowKit
def rrB (base : Nat) (b : Bool) (R : List Int) : Value → World → Prop := fun v w => ∃ a c n, v = .tuple #[.slice a n c, .bool b] ∧ (b = true → n = 256 ∧ NewB base w a c R)
theorem rrB_steady (base : Nat) (b : Bool) (R : List Int) : Up.Steady (rrB base b R) := fun v w w' hb ⟨a, c, n, h1, h2⟩ => ⟨a, c, n, h1, fun hb' => ⟨(h2 hb').1, (h2 hb').2.stays hb⟩⟩
theorem rix_at0 (g : Nat) (u : World) : (Instr.indexAt 40 (.pointer (some ⟨g, 33, none⟩)) (.int .i64 0)).run Tryd.prog u = .ok (.pointer (some ⟨g, 33, none⟩)) u := by
 have := index_ptr (P := Tryd.prog) (t := 40) (e := 34) (n := 2) (m := 1) (g := g) (off := 33) (K := .i64) (j := 0) Tryd.underlying40 (by kernel_rfl) (by omega) u
 simpa using this
theorem rix_at1 (g : Nat) (u : World) : (Instr.indexAt 40 (.pointer (some ⟨g, 33, none⟩)) (.int .i64 1)).run Tryd.prog u = .ok (.pointer (some ⟨g, 34, none⟩)) u := by
 have := index_ptr (P := Tryd.prog) (t := 40) (e := 34) (n := 2) (m := 1) (g := g) (off := 33) (K := .i64) (j := 1) Tryd.underlying40 (by kernel_rfl) (by omega) u
 simpa using this
end Go.Proofs.YthbldjnpnligpaaDoor

/-
 Laws: truths and strings stored in a block; blocks that a region makes.
-/

namespace Go.Proofs.YthbldjnpnligpaaDoor
set_option linter.unusedSimpArgs false
set_option linter.unusedVariables false
set_option maxRecDepth 100000
open Go.RowKit
theorem run_store_one {P : Program} {w : World} {t e : TypeId} {g off : Nat} {vs : List Value} {v : Value} (hc : v.cells = #[v]) (h1 : v.oneCell' = true) (hZ : ∀ w, (sizeOf t).run P w = .ok 1 w) (hb : Blk e w g vs) (hle : off < vs.length) :
 (Instr.storeAt t (.pointer (some ⟨g, off, none⟩)) v).run P w = .ok () (w.setRow g (vs.set off v).toArray) := by
 have h := run_storeCells_at (P := P) g off e [v] 0 vs.toArray w hb (by simp; omega) (by simpa using h1)
 simp only [Nat.add_zero, List.length_singleton] at h
 have hs : vs.take off ++ [v] ++ vs.drop (off + 1) = vs.set off v := by rw [List.set_eq_take_append_cons_drop, if_pos hle]; simp
 simp only [List.toList_toArray, hs] at h
 simp [Instr.storeAt, Instr.sureAddr, storeVar, hZ, h, Sem.run_bind, hc]
theorem wpList_store_one {P : Program} {w : World} {ops : Array Oper} {rest : List Oper} {o : Oper} {a : Act} {Q : Exit → Act → World → Prop} (hgd : o.guard = none) (x y : Operand) (t : TypeId) (ho : o.op = Op.store t x y)
 (g off : Nat) (hx : a.eval x = .pointer (some ⟨g, off, none⟩)) (v : Value) (hy : a.eval y = v) (hc : v.cells = #[v]) (h1 : v.oneCell' = true) (hZ : ∀ w, (sizeOf t).run P w = .ok 1 w) {e : TypeId} {vs : List Value} (hb : Blk e w g vs) (hle : off < vs.length)
 (h : ∀ w', Blk e w' g (vs.set off v) → But g w w' → w'.heap.size = w.heap.size → wpList P ops Q rest (a.put o.dst undef) w') : wpList P ops Q (o :: rest) a w := by
 refine wpList_plain hgd fun K' hK => ?_
 have hr := run_store_one (P := P) (w := w) hc h1 hZ hb hle
 unfold Oper.wp execOp
 simp only [ho, hx, hy, Sem.run_bind, Sem.run_pure, Result.andThen_ok, hr]
 exact hK _ _ (h _ (setRow_heap w g _ _ e _ hb) ((But.refl g w).setRow _) (by simp [World.setRow]))
def blkT (t : TypeId) (B : Nat) (vs : List Value) : Value → World → Prop := fun v w => ∃ g, v = .pointer (some ⟨g, 0, none⟩) ∧ B ≤ g ∧ Blk t w g vs
theorem blkT_steady (t : TypeId) (B : Nat) (vs : List Value) : UpT.Steady (blkT t B vs) := fun v w w' hb ⟨g, h1, h2, h3⟩ => ⟨g, h1, h2, h3.stays hb⟩
theorem exec_alloc0 {P : Program} {a : Act} {o : Oper} {w : World} {t : TypeId} {zs : List Value} (ho : o.op = Op.alloc t) (hr : (Instr.alloc t true (.tuple #[])).run P w = .ok (.pointer (some ⟨w.heap.size, 0, none⟩)) (w.alloc (.cells zs.toArray t))) :
 (execOp a.eval o).run P w = .ok (.value (.pointer (some ⟨w.heap.size, 0, none⟩))) (w.alloc (.cells zs.toArray t)) := by
 unfold execOp
 simp only [ho, Sem.run_bind, Sem.run_pure, Result.andThen_ok, hr]
theorem exec_buildL {P : Program} {a : Act} {o : Oper} {w : World} {t : TypeId} (ps : List (Nat × Operand)) (ho : o.op = Op.build t ps.toArray) (qs : List (Nat × Value)) (hq : ps.map (fun q => (q.1, a.eval q.2)) = qs) {V : Value} (hr : (Instr.build t qs.toArray).run P w = .ok V w) : (execOp a.eval o).run P w = .ok (.value V) w := by
 have e : ps.toArray.map (fun (i, x) => (i, a.eval x)) = qs.toArray := by rw [List.map_toArray, ← hq]
 unfold execOp
 simp only [ho, Sem.run_bind, Sem.run_pure, Result.andThen_ok, e, hr]
theorem agg_bools (w : World) : (isAgg 46).run Tryd.prog w = .ok true w := isAgg_array Tryd.underlying46 w
theorem size_bools (w : World) : (sizeOf 46).run Tryd.prog w = .ok 2 w := sizeOf_run (by kernel_rfl) w
theorem size_bool1 (w : World) : (sizeOf 4).run Tryd.prog w = .ok 1 w := sizeOf_run (by kernel_rfl) w
def twoB (x y : Bool) : List Value := [.bool x, .bool y]
theorem twoB_one (x y : Bool) : ∀ v ∈ twoB x y, v.oneCell' = true := by
 intro v hv
 simp [twoB] at hv
 rcases hv with rfl | rfl <;> rfl
theorem alloc_bools (w : World) : (Instr.alloc 46 true (.tuple #[])).run Tryd.prog w = .ok (.pointer (some ⟨w.heap.size, 0, none⟩)) (w.alloc (.cells (twoB false false).toArray 46)) := by kernel_rfl
theorem index_bools (g j : Nat) (hj : j < 2) (u : World) : (Instr.indexAt 46 (.pointer (some ⟨g, 0, none⟩)) (.int .i64 (j : Int))).run Tryd.prog u = .ok (.pointer (some ⟨g, j, none⟩)) u := by
 have := index_ptr (P := Tryd.prog) (t := 46) (e := 4) (n := 2) (m := 1) (g := g) (off := 0) (K := .i64) (j := j) Tryd.underlying46 (by kernel_rfl) hj u
 simpa using this
end Go.Proofs.YthbldjnpnligpaaDoor

/-
 What calls leave of a disk, one behind the other.
-/

namespace Go.Proofs.YthbldjnpnligpaaDoor
set_option linter.unusedSimpArgs false
set_option linter.unusedVariables false
set_option maxRecDepth 100000
open Go.RowKit
section
variable {B : Nat} {w w' : World} {F : Nat → Prop} {k p g : Nat} {S S' : DS} {l l' : List Bool} {t : Nat}
theorem then_trans {w1 w2 : World} {S1 S2 : DS} (ht : Then F w w1 p S1) (ht2 : Then (fun j => F j ∨ w.heap.size ≤ j) w1 w2 p S2) : Then F w w2 p S2 := by
 refine ⟨ht2.1.mono (fun j hj _ => ?_), ?_⟩
 · rcases hj with (hj | hj) | hj
   · exact .inl hj
   · exact .inr hj
   · exact .inr (by have := ht.2.size; omega)
 · exact ⟨ht2.2.os.trans ht.2.os, ht2.2.tape.trans ht.2.tape, ht2.2.output.trans ht.2.output, by have := ht.2.size; have := ht2.2.size; omega,
    fun j hj hl => (ht2.2.block j (fun hh => hh.elim hj (fun h2 => by omega)) (by have := ht.2.size; omega)).trans (ht.2.block j hj hl)⟩
theorem then_below {w1 w2 : World} {S2 : DS} (hb : Below w.heap.size w w1) (ht : Then F w1 w2 p S2) : Then F w w2 p S2 := by
 refine ⟨ht.1.mono (fun j hj _ => ?_), ?_⟩
 · rcases hj with hj | hj
   · exact .inl hj
   · exact .inr (by have := hb.size; omega)
 · exact ⟨ht.2.os.trans hb.os, ht.2.tape.trans hb.tape, ht.2.output.trans hb.output, by have := hb.size; have := ht.2.size; omega,
    fun j hj hl => (ht.2.block j hj (by have := hb.size; omega)).trans (hb.block j hl)⟩
theorem then_after {w1 w2 : World} {S1 : DS} (ht : Then F w w1 p S1) (hb : Below w1.heap.size w1 w2) : Then F w w2 p S1 := by
 refine ⟨ht.1.stays hb, ht.2.os ▸ hb.os, ?_, ?_, by have := hb.size; have := ht.2.size; omega, fun j hj hl => (hb.block j (by have := ht.2.size; omega)).trans (ht.2.block j hj hl)⟩
 · exact hb.tape.trans ht.2.tape
 · exact hb.output.trans ht.2.output
theorem bs_keep {a : Option Addr} {c : Nat} {xs : List Int} (hf : Frm F w w') (hB : Bs w a c xs) (hn : ∀ x, a = some x → ¬ F x.block) : Bs w' a c xs := by
 refine ⟨hB.rng, hB.cap, hB.capm, hB.nul, ?_⟩
 rcases hB.lay with h0 | ⟨b, off, hbe, hcell⟩
 · exact .inl h0
 · refine .inr ⟨b, off, hbe, fun i hi => ?_⟩
   subst hbe
   rw [World.cell?_of_block (w := w) (hf.block b (hn _ rfl) (World.block_lt_of_cell? w _ (hcell i hi)))]
   exact hcell i hi
theorem us_keep {a : Option Addr} {ks : List Nat} (hf : Frm F w w') (hB : Us w a ks) (hn : ∀ x, a = some x → ¬ F x.block) : Us w' a ks := by
 refine ⟨hB.rng, ?_⟩
 rcases hB.lay with h0 | ⟨b, off, hbe, hcell⟩
 · exact .inl h0
 · refine .inr ⟨b, off, hbe, fun i hi => ?_⟩
   subst hbe
   rw [World.cell?_of_block (w := w) (hf.block b (hn _ rfl) (World.block_lt_of_cell? w _ (hcell i hi)))]
   exact hcell i hi
theorem Bk.base (h : Bk B w F k p g S l t) : B ≤ w.heap.size := by have := h.lk; have := h.bb.lt; omega
theorem Bk.after (h : Bk B w F k p g S l t) (ht : Then F w w' p S') (hs : S'.laid = S.laid) : ∃ F', Bk B w' F' k p g S' l t := by
 obtain ⟨F', h1, _⟩ := bthen_dk h h.base ht (by rw [hs])
 exact ⟨F', h1⟩
theorem Bk.but_new {m : Nat} (h : Bk B w F k p g S l t) (hb : But m w w') (hm : w.heap.size ≤ m) : Bk B w' F k p g S l t :=
 h.but hb (fun hf => by have := (h.low _ hf).2; omega) (fun e => by have := h.mp.blk.lt; omega) (fun e => by have := h.bb.lt; omega)
theorem stepR_on {b h : List Int} {x : Nat} {s : DS × Nat} (hoff : s.1.off = false) (h0 : (stepR b h x s).2 = 0) : (stepR b h x s).1.1.off = false := by
 unfold stepR at *
 split
 · exact hoff
 · rename_i h1
   rw [if_neg h1] at h0
   split
   · rename_i h2; exact (write_on (by rw [h2]; decide)).1
   · rename_i h2
     rw [if_neg h2] at h0
     split
     · rename_i h3; exact (write_on (by rw [h3]; decide)).1
     · rename_i h3
       rw [if_neg h3] at h0
       simp only at h0
       exact absurd h0 h2
theorem stepR_two (b h : List Int) (x : Nat) (s : DS × Nat) : (stepR b h x s).1.2 ≤ s.2 + 1 := by
 unfold stepR
 repeat' split
 all_goals (simp only; omega)
theorem restK_two (S : DS) (q : Pt) (b : List Int) : (restK S q b).1.2 ≤ 2 := by
 have h1 := stepR_two b q.h q.x (S, 0)
 have h2 := stepR_two b q.h q.y (stepR b q.h q.x (S, 0)).1
 unfold restK
 simp only at h1
 split <;> omega
end
end Go.Proofs.YthbldjnpnligpaaDoor
