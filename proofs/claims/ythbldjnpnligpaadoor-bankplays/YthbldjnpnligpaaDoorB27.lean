/-
 What package bank's texts want of general laws.
-/
import Derived.Test.YthbldjnpnligpaaDoorB15
import Derived.Test.YthbldjnpnligpaaDoorB17
import Derived.Test.YthbldjnpnligpaaDoorB20
import Derived.Test.YthbldjnpnligpaaDoorB21
import Derived.Test.YthbldjnpnligpaaDoorB26
import Derived.Test.YthbldjnpnligpaaDoorB23
import Derived.Test.YthbldjnpnligpaaDoorB11
import Derived.Test.YthbldjnpnligpaaDoorB04
import Derived.Test.YthbldjnpnligpaaDoorB19
import Derived.Deep.Slices
import Derived.Lib.LaidTab
import Derived.LaidHandle
import Derived.LaidLaws
import Derived.Stop.LaidErr
namespace Go.Proofs.YthbldjnpnligpaaDoor
set_option linter.unusedSimpArgs false
set_option linter.unusedVariables false
set_option maxRecDepth 100000
open Go.RowKit
theorem rng_zeros (n : Nat) : ∀ x ∈ List.replicate n (0 : Int), 0 ≤ x ∧ x ≤ 255 := by
 intro x hx
 rw [(List.mem_replicate.1 hx).2]; decide
theorem wpList_load_guard7 {P : Program} {w : World} {ops : Array Oper} {rest : List Oper} {o : Oper} {a : Act} {Q : Exit → Act → World → Prop} (x : Operand) (t : TypeId) (ho : o.op = Op.load t x) (hw : Region.wanted o (yielded ops a.tmps) = true)
 (g off n : Nat) (hx : a.eval x = .pointer (some ⟨g, off, none⟩)) (hA : ∀ w, (isAgg t).run P w = .ok true w) (hZ : ∀ w, (sizeOf t).run P w = .ok n w) {e : TypeId} {vs : List Value} (hb : Blk e w g vs)
 (us : List Value) (hu : us = (vs.drop off).take n) (hl : us.length = n) (h : wpList P ops Q rest (a.put o.dst (.agg us.toArray)) w) : wpList P ops Q (o :: rest) a w :=
 wpList_load_blk_guard hw x t ho g off n hx hA hZ hb us hu hl h
theorem run_load_cells {P : Program} {w : World} {t : TypeId} {b off n : Nat} {us : List Value} (hA : ∀ w, (isAgg t).run P w = .ok true w) (hZ : ∀ w, (sizeOf t).run P w = .ok n w)
 (hc : ∀ j, j < n → w.cell? ⟨b, off + j, none⟩ = us[j]?) (hl : us.length = n) : (Instr.loadAt t (.pointer (some ⟨b, off, none⟩))).run P w = .ok (.agg us.toArray) w := by
 have h := run_loadCells_list (P := P) w ⟨b, off, none⟩ us (fun j v hj => by
  have hadd : (⟨b, off, none⟩ : Addr).add j = ⟨b, off + j, none⟩ := by unfold Addr.add; split <;> simp_all
  have hjl : j < n := by
   rcases Nat.lt_or_ge j n with h1 | h1
   · exact h1
   · rw [List.getElem?_eq_none (by omega)] at hj; cases hj
  rw [hadd, hc j hjl]
  exact hj)
 rw [hl] at h
 simp [Instr.loadAt, Instr.sureAddr, loadVar, hA, hZ, h, Sem.run_bind]
theorem wpList_load_cells {P : Program} {w : World} {ops : Array Oper} {rest : List Oper} {o : Oper} {a : Act} {Q : Exit → Act → World → Prop} (hgd : o.guard = none) (x : Operand) (t : TypeId) (ho : o.op = Op.load t x)
 (b off n : Nat) (hx : a.eval x = .pointer (some ⟨b, off, none⟩)) (hA : ∀ w, (isAgg t).run P w = .ok true w) (hZ : ∀ w, (sizeOf t).run P w = .ok n w)
 (us : List Value) (hc : ∀ j, j < n → w.cell? ⟨b, off + j, none⟩ = us[j]?) (hl : us.length = n) (h : wpList P ops Q rest (a.put o.dst (.agg us.toArray)) w) : wpList P ops Q (o :: rest) a w := by
 refine wpList_plain hgd fun K hK => ?_
 have hr := run_load_cells (P := P) (w := w) hA hZ hc hl
 unfold Oper.wp execOp
 simp only [ho, hx, Sem.run_bind, Sem.run_pure, Result.andThen_ok, hr]
 exact hK _ _ h
end Go.Proofs.YthbldjnpnligpaaDoor

/-
 What came in for package bank's laws: masks, acts, scripts.
-/

namespace Go.Proofs.YthbldjnpnligpaaDoor
set_option linter.unusedSimpArgs false
set_option linter.unusedVariables false
set_option maxRecDepth 100000
open Go.RowKit Go.ChangeShapes Go.WideShapes
structure ActK where
 kind : Int
 copies : Int
 which : Int
 at' : Int
 p : Pt
 ba : Option Addr
 bc : Nat
 bs : List Int
instance : Inhabited ActK := ⟨⟨0, 0, 0, 0, Pt.zero, none, 0, []⟩⟩
def ActK.cells (x : ActK) : List Value := [.int .i64 x.kind, .int .i64 x.copies, .int .i64 x.which, .int .i64 x.at'] ++ x.p.vs ++ [.slice x.ba x.bs.length x.bc]
structure ActKOk (W : World) (x : ActK) : Prop where
 kind : -9223372036854775808 ≤ x.kind ∧ x.kind ≤ 9223372036854775807
 copies : -9223372036854775808 ≤ x.copies ∧ x.copies ≤ 9223372036854775807
 which : -9223372036854775808 ≤ x.which ∧ x.which ≤ 9223372036854775807
 at' : -9223372036854775808 ≤ x.at' ∧ x.at' ≤ 9223372036854775807
 p : x.p.ok
 bs : Bs W x.ba x.bc x.bs
structure ActsK (W : World) (a : Option Addr) (xs : List ActK) : Prop where
 lay : xs = [] ∨ ∃ b off, a = some ⟨b, off, none⟩ ∧ ∀ i, i < xs.length → ∀ j, j < 40 → W.cell? ⟨b, off + 40 * i + j, none⟩ = (xs.getD i default).cells[j]?
 ok : ∀ x ∈ xs, ActKOk W x
section
variable {H : Type} {enc : TypeId × Value → H} {W : World} {base : Nat}
theorem open_actK {fuel : Nat} {held : Bool} {cs : List Value} {x : DataW H × List MemPlace} (h : DataW.trod enc Tryd.prog W base (fun _ => true) held fuel 45 cs = some x) :
 ∃ y : ActK, cs = y.cells ∧ ActKOk W y := by
 have hI : Tryd.prog.cellsOf 3 = 1 := by kernel_rfl
 have hS : Tryd.prog.cellsOf 43 = 1 := by kernel_rfl
 have hP : Tryd.prog.cellsOf 42 = 35 := by kernel_rfl
 have hA : Tryd.prog.cellsOf 45 = 40 := by kernel_rfl
 cases fuel with
 | zero => simp [DataW.trod] at h
 | succ fuel =>
   simp only [DataW.trod, Tryd.underlying45, hA] at h
   split at h
   · rename_i hl
     obtain ⟨xs, hm, hx⟩ := Option.map_eq_some_iff.1 h
     obtain ⟨_, _, h0⟩ := Lib.mapM_at hm 0 _ rfl
     obtain ⟨_, _, h1⟩ := Lib.mapM_at hm 1 _ rfl
     obtain ⟨_, _, h2⟩ := Lib.mapM_at hm 2 _ rfl
     obtain ⟨_, _, h3⟩ := Lib.mapM_at hm 3 _ rfl
     obtain ⟨_, _, h4⟩ := Lib.mapM_at hm 4 _ rfl
     obtain ⟨_, _, h5⟩ := Lib.mapM_at hm 5 _ rfl
     simp only [hI, hS, hP] at h0 h1 h2 h3 h4 h5
     obtain ⟨n0, e0, _, w0⟩ := DataW.trod_int Tryd.underlying3 h0
     obtain ⟨n1, e1, _, w1⟩ := DataW.trod_int Tryd.underlying3 h1
     obtain ⟨n2, e2, _, w2⟩ := DataW.trod_int Tryd.underlying3 h2
     obtain ⟨n3, e3, _, w3⟩ := DataW.trod_int Tryd.underlying3 h3
     obtain ⟨p, e4, ok4⟩ := open_ptr_cs h4
     obtain ⟨a5, c5, x5, e5, b5⟩ := open_bs h5
     refine ⟨⟨n0, n1, n2, n3, p, a5, c5, x5⟩, ?_, wf_i64 w0, wf_i64 w1, wf_i64 w2, wf_i64 w3, ok4, b5⟩
     have g0 := take1 e0
     have g1 := take1 e1
     have g2 := take1 e2
     have g3 := take1 e3
     unfold ActK.cells
     simp only
     have c1 : cs = cs.take 4 ++ cs.drop 4 := (List.take_append_drop _ _).symm
     have c2 : cs.drop 4 = (cs.drop 4).take 35 ++ cs.drop 39 := by rw [show 39 = 4 + 35 from rfl, ← List.drop_drop]; exact (List.take_append_drop _ _).symm
     have c3 : (cs.drop 39).take 1 = cs.drop 39 := List.take_of_length_le (by simp; omega)
     have c0 : cs.take 4 = [.int .i64 n0, .int .i64 n1, .int .i64 n2, .int .i64 n3] := by
        match cs, hl, g0, g1, g2, g3 with
        | x0 :: x1 :: x2 :: x3 :: rest, _, g0, g1, g2, g3 =>
          simp at g0 g1 g2 g3
          subst g0 g1 g2 g3
          rfl
     rw [c1, c2, ← c3, c0, e4, e5, List.append_assoc]
   · cases h
theorem open_actsK {r : Reach} {b0 : Nat} {v : Value} {d : DataW H} {p : List MemPlace} {held : Bool} (hv : Value.okWide Tryd.prog W r b0 22 v) (h : DataW.Trod enc Tryd.prog W base (fun _ => true) held 22 v d p) :
 ∃ a c xs, v = .slice a (List.length xs) c ∧ ActsK W a xs ∧ xs.length ≤ 9223372036854775807 := by
 obtain ⟨a, len, cap, rfl⟩ := okWide_slice Tryd.underlying22 hv
 obtain ⟨fuel, hf⟩ := h
 have hA : Tryd.prog.cellsOf 45 = 40 := by kernel_rfl
 rcases Go.Deep.open_slice Tryd.underlying22 hf with ⟨hcs, _⟩ | ⟨x, l, c, m, n, D, Pl, hcs, _, hl, hmx, hm, _, hel⟩
 · simp [Value.cells] at hcs
   obtain ⟨rfl, rfl, rfl⟩ := hcs
   exact ⟨none, 0, [], rfl, ⟨.inl rfl, fun x hx => by cases hx⟩, by simp⟩
 · simp [Value.cells] at hcs
   obtain ⟨rfl, rfl, rfl⟩ := hcs
   simp only [if_true] at hm
   subst hm
   rw [hA] at hel
   obtain ⟨Y, hY⟩ := Go.Deep.choose_lt (n := len) (p := fun i (y : ActK) => W.cells? base (x.add (i * 40)) 40 = some y.cells ∧ ActKOk W y) (fun i hi => by
    obtain ⟨cs', h1, h2⟩ := hel i (by omega)
    obtain ⟨y, rfl, hy⟩ := open_actK h2
    exact ⟨y, h1, hy⟩)
   unfold maxLen at hmx
   refine ⟨some x, m, (List.range len).map Y, by simp, ⟨?_, ?_⟩, by simp; omega⟩
   · by_cases h0 : len = 0
     · exact .inl (by simp [h0])
     · right
       have hcell : ∀ i, i < len → ∀ j, j < 40 → W.cell? ((x.add (i * 40)).add j) = (Y i).cells[j]? := fun i hi j hj => by
         have h1 := (hY i hi).1
         unfold World.cells? at h1
         split at h1
         · obtain ⟨b, hb, hc⟩ := Lib.mapM_at h1 j j (by simp [hj])
           rw [hb]; exact hc
         · cases h1
       obtain ⟨b, off, spot⟩ := x
       have hspot : spot = none := by
         have h1 := hcell 0 (by omega) 0 (by omega)
         rw [show (Y 0).cells[0]? = some (.int .i64 (Y 0).kind) from rfl] at h1
         simpa [Addr.add] using World.cell?_spot h1
       subst hspot
       refine ⟨b, off, rfl, fun i hi j hj => ?_⟩
       simp at hi
       have h1 := hcell i hi j hj
       have hpl : ((⟨b, off, none⟩ : Addr).add (i * 40)).add j = ⟨b, off + 40 * i + j, none⟩ := by
         rw [Go.Deep.add_add]
         unfold Addr.add
         split <;> simp_all
         omega
       rw [hpl] at h1
       rw [h1]
       simp [List.getD, hi]
   · intro y hy
     obtain ⟨i, hi, rfl⟩ := List.mem_map.1 hy
     exact (hY i (by simpa using hi)).2
theorem ActK.cells_at {x : ActK} (h : x.p.ok) : x.cells[0]? = some (.int .i64 x.kind) ∧ x.cells[1]? = some (.int .i64 x.copies) ∧ x.cells[2]? = some (.int .i64 x.which) ∧ x.cells[3]? = some (.int .i64 x.at') ∧ x.cells[39]? = some (.slice x.ba x.bs.length x.bc) := by
 have hl := Pt.vs_len h
 refine ⟨rfl, rfl, rfl, rfl, ?_⟩
 unfold ActK.cells
 rw [List.getElem?_append_right (by simp [hl])]
 simp [hl]
theorem ActK.cells_ptr {x : ActK} (h : x.p.ok) : x.p.vs = (x.cells.drop 4).take 35 := by
 have hl := Pt.vs_len h
 unfold ActK.cells
 simp [hl]
theorem ActK.cells_len {x : ActK} (h : x.p.ok) : x.cells.length = 40 := by
 have hl := Pt.vs_len h
 unfold ActK.cells
 simp [hl]
theorem ActK.cells_one (x : ActK) : ∀ v ∈ x.cells, v.oneCell' = true := by
 intro v hv
 unfold ActK.cells at hv
 simp only [List.mem_append, List.mem_cons, List.not_mem_nil, or_false] at hv
 rcases hv with ((rfl | rfl | rfl | rfl) | hv) | rfl
 all_goals first | rfl | exact Pt.vs_one _ v hv
theorem ActsK.stays {W W' : World} {a : Option Addr} {xs : List ActK} (h : ActsK W a xs) (hb : Below W.heap.size W W') : ActsK W' a xs := by
 refine ⟨?_, fun x hx => ⟨(h.ok x hx).kind, (h.ok x hx).copies, (h.ok x hx).which, (h.ok x hx).at', (h.ok x hx).p, (h.ok x hx).bs.stays hb⟩⟩
 rcases h.lay with h0 | ⟨b, off, rfl, hc⟩
 · exact .inl h0
 · refine .inr ⟨b, off, rfl, fun i hi j hj => ?_⟩
   have h1 := hc i hi j hj
   have hx : (xs.getD i default) ∈ xs := by simp [List.getD, hi]
   have hlen := ActK.cells_len (h.ok _ hx).p
   have h2 : ∃ v, (xs.getD i default).cells[j]? = some v := ⟨_, List.getElem?_eq_getElem (by omega)⟩
   obtain ⟨v, hv⟩ := h2
   rw [hv] at h1 ⊢
   rw [hb.cell (World.block_lt_of_cell? W _ h1)]
   exact h1
theorem ActsK.at {W : World} {a : Option Addr} {xs : List ActK} (h : ActsK W a xs) {i : Nat} (hi : i < xs.length) :
 ∃ b off, a = some ⟨b, off, none⟩ ∧ (∀ j, j < 40 → W.cell? ⟨b, off + i * 40 + j, none⟩ = (xs.getD i default).cells[j]?) ∧ ActKOk W (xs.getD i default) := by
 have hx : (xs.getD i default) ∈ xs := by simp [List.getD, hi]
 rcases h.lay with h0 | ⟨b, off, h1, h2⟩
 · rw [h0] at hi; simp at hi
 · exact ⟨b, off, h1, fun j hj => by rw [Nat.mul_comm i 40]; exact h2 i hi j hj, h.ok _ hx⟩
end
end Go.Proofs.YthbldjnpnligpaaDoor

/-
 From what a row lists to what the walks ask: the two tables of package sha; a world that has them.
-/

namespace Go.Proofs.YthbldjnpnligpaaDoor
set_option linter.unusedSimpArgs false
set_option linter.unusedVariables false
set_option maxRecDepth 100000
open Go.RowKit
theorem stepsData : (Rows.laid_cautery_sha_steps : DataW Unit) = Lib.tabData .u32 (ints stepNums) := rfl
theorem firstsData : (Rows.laid_cautery_sha_firsts : DataW Unit) = Lib.tabData .u32 (ints firsts8.list) := rfl
theorem stepsAt : Tryd.prog.globalNamed "cautery/sha.steps" = some 1 := by kernel_rfl
theorem firstsAt : Tryd.prog.globalNamed "cautery/sha.firsts" = some 0 := by kernel_rfl
theorem stepsType : (Tryd.prog.globals[1]?).map (·.type) = some 238 := by kernel_rfl
theorem firstsType : (Tryd.prog.globals[0]?).map (·.type) = some 217 := by kernel_rfl
theorem vars_of_laid {W : World} (h : laidMet Tryd.prog [("cautery/sha.steps", Rows.laid_cautery_sha_steps), ("cautery/sha.firsts", Rows.laid_cautery_sha_firsts)] W) : Vars W := by
 rw [stepsData, firstsData] at h
 have h1 := Lib.tabIs_of_head stepsAt stepsType Tryd.underlying238 Tryd.underlying34 (by kernel_rfl) (by kernel_rfl) h
 have h2 := Lib.tabIs_of_head firstsAt firstsType Tryd.underlying217 Tryd.underlying34 (by kernel_rfl) (by kernel_rfl) h.tail
 exact ⟨fun i hi => h1.cell stepsAt i hi, fun i hi => h2.cell firstsAt i hi⟩
noncomputable def laidWorld (os : Os) : World :=
 let w0 := World.holding Tryd.prog os ⟨#[], #[], []⟩
 { w0 with heap := (w0.heap.modify 1 fun
  | .cells _ t frozen => .cells ((ints stepNums).map (Value.int .u32)).toArray t frozen
  | o => o).modify 0 fun
  | .cells _ t frozen => .cells ((ints firsts8.list).map (Value.int .u32)).toArray t frozen
  | o => o }
theorem laid_met (os : Os) (args : Array Value) : laidMet Tryd.prog [("cautery/sha.steps", Rows.laid_cautery_sha_steps), ("cautery/sha.firsts", Rows.laid_cautery_sha_firsts)] ((laidWorld os).forCall (fun _ _ => 0) ⟨#[], args, []⟩).memory :=
 laidMet_of_run' 8 (by kernel_rfl) (by kernel_rfl)
end Go.Proofs.YthbldjnpnligpaaDoor
