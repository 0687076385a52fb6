/-
  Pointers that came in, as the walks take them.
-/
import Derived.Test.YtjlmldhlmnafnaaDoorG01
import Derived.Test.YtjlmldhlmnafnaaDoorG04
import Derived.Test.YtjlmldhlmnafnaaDoorG25
import Derived.Test.YtjlmldhlmnafnaaDoorG22
import Derived.Test.YtjlmldhlmnafnaaDoorG17
import Derived.Deep.Slices
import Derived.Lib.LaidTab
import Derived.LaidHandle
import Derived.LaidLaws
import Derived.Stop.LaidErr
namespace Go.Proofs.YtjlmldhlmnafnaaDoor
set_option linter.unusedSimpArgs false
set_option linter.unusedVariables false
set_option maxRecDepth 100000
open Go.RowKit Go.ChangeShapes Go.WideShapes

theorem wf_u32 {n : Int} (h : (Lit.int .u32 n).wf = true) : ∃ k : Nat, n = k ∧ k < 4294967296 := by
  simp [Lit.wf, IntKind.min, IntKind.max, IntKind.bits, IntKind.signed] at h
  exact ⟨n.toNat, by omega, by omega⟩

section
variable {H : Type} {enc : TypeId × Value → H} {W : World} {base : Nat}

theorem open_ptr_cs {fuel : Nat} {held : Bool} {cs : List Value} {x : DataW H × List MemPlace} (h : DataW.trod enc Tryd.prog W base (fun _ => true) held fuel 42 cs = some x) : ∃ p : Pt, cs = p.vs ∧ p.ok := by
  have hH : Tryd.prog.cellsOf 39 = 32 := by kernel_rfl
  have hU : Tryd.prog.cellsOf 34 = 1 := by kernel_rfl
  have hT : Tryd.prog.cellsOf 40 = 2 := by kernel_rfl
  have hB : Tryd.prog.cellsOf 5 = 1 := by kernel_rfl
  have hP : Tryd.prog.cellsOf 42 = 35 := by kernel_rfl
  cases fuel with
  | zero => simp [DataW.trod] at h
  | succ fuel =>
    simp only [DataW.trod, Tryd.underlying42, hP] at h
    split at h
    · rename_i hl
      obtain ⟨xs, hm, hx⟩ := Option.map_eq_some_iff.1 h
      obtain ⟨_, _, h0⟩ := Lib.mapM_at hm 0 _ rfl
      obtain ⟨_, _, h1⟩ := Lib.mapM_at hm 1 _ rfl
      obtain ⟨_, _, h2⟩ := Lib.mapM_at hm 2 _ rfl
      simp only [hH, hU, hT] at h0 h1 h2
      obtain ⟨zs, e0, l0, r0⟩ := open_array Tryd.underlying39 Tryd.underlying5 hB hH h0
      obtain ⟨n1, e1, _, w1⟩ := DataW.trod_int Tryd.underlying34 h1
      obtain ⟨ys, e2, l2, r2⟩ := open_array Tryd.underlying40 Tryd.underlying34 hU hT h2
      obtain ⟨b, rfl, hb⟩ := wf_u32 w1
      match ys, l2, e2, r2 with
      | [y0, y1], _, e2, r2 =>
        obtain ⟨a0, rfl, ha0⟩ := wf_u32 (r2 y0 (by simp))
        obtain ⟨a1, rfl, ha1⟩ := wf_u32 (r2 y1 (by simp))
        refine ⟨⟨zs, b, a0, a1⟩, ?_, ⟨l0, fun z hz => wf_u8 (r0 z hz), hb, ha0, ha1⟩⟩
        unfold Pt.vs
        simp only
        have c1 : cs = cs.take 32 ++ cs.drop 32 := (List.take_append_drop _ _).symm
        have c2 : cs.drop 32 = (cs.drop 32).take 1 ++ cs.drop 33 := by rw [show 33 = 32 + 1 from rfl, ← List.drop_drop]; exact (List.take_append_drop _ _).symm
        have c3 : (cs.drop 33).take 2 = cs.drop 33 := List.take_of_length_le (by simp; omega)
        rw [List.drop_zero] at e0
        rw [c1, c2, ← c3, e0, e1, e2]
        rfl
    · cases h

theorem open_ptr {r : Reach} {b0 : Nat} {v : Value} {d : DataW H} {p : List MemPlace} {held : Bool} (hv : Value.okWide Tryd.prog W r b0 42 v) (h : DataW.Trod enc Tryd.prog W base (fun _ => true) held 42 v d p) :
    ∃ q : Pt, v = .agg q.vs.toArray ∧ q.ok := by
  have hagg : ∃ cs, v = .agg cs := by
    simp only [Value.okWide, Tryd.underlying42] at hv
    obtain ⟨cs, h1, _⟩ := hv
    exact ⟨cs, h1⟩
  obtain ⟨cs, rfl⟩ := hagg
  obtain ⟨fuel, hf⟩ := h
  obtain ⟨q, h1, h2⟩ := open_ptr_cs hf
  refine ⟨q, ?_, h2⟩
  simp only [Value.cells] at h1
  rw [← h1]

end
end Go.Proofs.YtjlmldhlmnafnaaDoor

/-
  What came in for package bank's laws: masks, acts, scripts.
-/

namespace Go.Proofs.YtjlmldhlmnafnaaDoor
set_option linter.unusedSimpArgs false
set_option linter.unusedVariables false
set_option maxRecDepth 100000
open Go.RowKit Go.ChangeShapes Go.WideShapes

/-- An act of the laws: kind, copies, which, at; a pointer; bytes behind a slice. -/
structure ActK where
  kind : Int
  copies : Int
  which : Int
  at' : Int
  p : Pt
  ba : Option Addr
  bc : Nat
  bs : List Int
instance : Inhabited ActK := ⟨⟨0, 0, 0, 0, Pt.zero, none, 0, []⟩⟩
def ActK.cells (x : ActK) : List Value := [.int .i64 x.kind, .int .i64 x.copies, .int .i64 x.which, .int .i64 x.at'] ++ x.p.vs ++ [.slice x.ba x.bs.length x.bc]
structure ActKOk (W : World) (x : ActK) : Prop where
  kind : -9223372036854775808 ≤ x.kind ∧ x.kind ≤ 9223372036854775807
  copies : -9223372036854775808 ≤ x.copies ∧ x.copies ≤ 9223372036854775807
  which : -9223372036854775808 ≤ x.which ∧ x.which ≤ 9223372036854775807
  at' : -9223372036854775808 ≤ x.at' ∧ x.at' ≤ 9223372036854775807
  p : x.p.ok
  bs : Bs W x.ba x.bc x.bs
structure ActsK (W : World) (a : Option Addr) (xs : List ActK) : Prop where
  lay : xs = [] ∨ ∃ b off, a = some ⟨b, off, none⟩ ∧ ∀ i, i < xs.length → ∀ j, j < 40 → W.cell? ⟨b, off + 40 * i + j, none⟩ = (xs.getD i default).cells[j]?
  ok : ∀ x ∈ xs, ActKOk W x

section
variable {H : Type} {enc : TypeId × Value → H} {W : World} {base : Nat}

theorem open_actK {fuel : Nat} {held : Bool} {cs : List Value} {x : DataW H × List MemPlace} (h : DataW.trod enc Tryd.prog W base (fun _ => true) held fuel 45 cs = some x) :
    ∃ y : ActK, cs = y.cells ∧ ActKOk W y := by
  have hI : Tryd.prog.cellsOf 3 = 1 := by kernel_rfl
  have hS : Tryd.prog.cellsOf 43 = 1 := by kernel_rfl
  have hP : Tryd.prog.cellsOf 42 = 35 := by kernel_rfl
  have hA : Tryd.prog.cellsOf 45 = 40 := by kernel_rfl
  cases fuel with
  | zero => simp [DataW.trod] at h
  | succ fuel =>
    simp only [DataW.trod, Tryd.underlying45, hA] at h
    split at h
    · rename_i hl
      obtain ⟨xs, hm, hx⟩ := Option.map_eq_some_iff.1 h
      obtain ⟨_, _, h0⟩ := Lib.mapM_at hm 0 _ rfl
      obtain ⟨_, _, h1⟩ := Lib.mapM_at hm 1 _ rfl
      obtain ⟨_, _, h2⟩ := Lib.mapM_at hm 2 _ rfl
      obtain ⟨_, _, h3⟩ := Lib.mapM_at hm 3 _ rfl
      obtain ⟨_, _, h4⟩ := Lib.mapM_at hm 4 _ rfl
      obtain ⟨_, _, h5⟩ := Lib.mapM_at hm 5 _ rfl
      simp only [hI, hS, hP] at h0 h1 h2 h3 h4 h5
      obtain ⟨n0, e0, _, w0⟩ := DataW.trod_int Tryd.underlying3 h0
      obtain ⟨n1, e1, _, w1⟩ := DataW.trod_int Tryd.underlying3 h1
      obtain ⟨n2, e2, _, w2⟩ := DataW.trod_int Tryd.underlying3 h2
      obtain ⟨n3, e3, _, w3⟩ := DataW.trod_int Tryd.underlying3 h3
      obtain ⟨p, e4, ok4⟩ := open_ptr_cs h4
      obtain ⟨a5, c5, x5, e5, b5⟩ := open_bs h5
      refine ⟨⟨n0, n1, n2, n3, p, a5, c5, x5⟩, ?_, wf_i64 w0, wf_i64 w1, wf_i64 w2, wf_i64 w3, ok4, b5⟩
      have g0 := take1 e0
      have g1 := take1 e1
      have g2 := take1 e2
      have g3 := take1 e3
      unfold ActK.cells
      simp only
      have c1 : cs = cs.take 4 ++ cs.drop 4 := (List.take_append_drop _ _).symm
      have c2 : cs.drop 4 = (cs.drop 4).take 35 ++ cs.drop 39 := by rw [show 39 = 4 + 35 from rfl, ← List.drop_drop]; exact (List.take_append_drop _ _).symm
      have c3 : (cs.drop 39).take 1 = cs.drop 39 := List.take_of_length_le (by simp; omega)
      have c0 : cs.take 4 = [.int .i64 n0, .int .i64 n1, .int .i64 n2, .int .i64 n3] := by
        match cs, hl, g0, g1, g2, g3 with
        | x0 :: x1 :: x2 :: x3 :: rest, _, g0, g1, g2, g3 =>
          simp at g0 g1 g2 g3
          subst g0 g1 g2 g3
          rfl
      rw [c1, c2, ← c3, c0, e4, e5, List.append_assoc]
    · cases h

theorem open_actsK {r : Reach} {b0 : Nat} {v : Value} {d : DataW H} {p : List MemPlace} {held : Bool} (hv : Value.okWide Tryd.prog W r b0 22 v) (h : DataW.Trod enc Tryd.prog W base (fun _ => true) held 22 v d p) :
    ∃ a c xs, v = .slice a (List.length xs) c ∧ ActsK W a xs ∧ xs.length ≤ 9223372036854775807 := by
  obtain ⟨a, len, cap, rfl⟩ := okWide_slice Tryd.underlying22 hv
  obtain ⟨fuel, hf⟩ := h
  have hA : Tryd.prog.cellsOf 45 = 40 := by kernel_rfl
  rcases Go.Deep.open_slice Tryd.underlying22 hf with ⟨hcs, _⟩ | ⟨x, l, c, m, n, D, Pl, hcs, _, hl, hmx, hm, _, hel⟩
  · simp [Value.cells] at hcs
    obtain ⟨rfl, rfl, rfl⟩ := hcs
    exact ⟨none, 0, [], rfl, ⟨.inl rfl, fun x hx => by cases hx⟩, by simp⟩
  · simp [Value.cells] at hcs
    obtain ⟨rfl, rfl, rfl⟩ := hcs
    simp only [if_true] at hm
    subst hm
    rw [hA] at hel
    obtain ⟨Y, hY⟩ := Go.Deep.choose_lt (n := len) (p := fun i (y : ActK) => W.cells? base (x.add (i * 40)) 40 = some y.cells ∧ ActKOk W y) (fun i hi => by
      obtain ⟨cs', h1, h2⟩ := hel i (by omega)
      obtain ⟨y, rfl, hy⟩ := open_actK h2
      exact ⟨y, h1, hy⟩)
    unfold maxLen at hmx
    refine ⟨some x, m, (List.range len).map Y, by simp, ⟨?_, ?_⟩, by simp; omega⟩
    · by_cases h0 : len = 0
      · exact .inl (by simp [h0])
      · right
        have hcell : ∀ i, i < len → ∀ j, j < 40 → W.cell? ((x.add (i * 40)).add j) = (Y i).cells[j]? := fun i hi j hj => by
          have h1 := (hY i hi).1
          unfold World.cells? at h1
          split at h1
          · obtain ⟨b, hb, hc⟩ := Lib.mapM_at h1 j j (by simp [hj])
            rw [hb]; exact hc
          · cases h1
        obtain ⟨b, off, spot⟩ := x
        have hspot : spot = none := by
          have h1 := hcell 0 (by omega) 0 (by omega)
          rw [show (Y 0).cells[0]? = some (.int .i64 (Y 0).kind) from rfl] at h1
          simpa [Addr.add] using World.cell?_spot h1
        subst hspot
        refine ⟨b, off, rfl, fun i hi j hj => ?_⟩
        simp at hi
        have h1 := hcell i hi j hj
        have hpl : ((⟨b, off, none⟩ : Addr).add (i * 40)).add j = ⟨b, off + 40 * i + j, none⟩ := by
          rw [Go.Deep.add_add]
          unfold Addr.add
          split <;> simp_all
          omega
        rw [hpl] at h1
        rw [h1]
        simp [List.getD, hi]
    · intro y hy
      obtain ⟨i, hi, rfl⟩ := List.mem_map.1 hy
      exact (hY i (by simpa using hi)).2

--?
theorem open_masks {r : Reach} {b0 : Nat} {v : Value} {d : DataW H} {p : List MemPlace} {held : Bool} (hv : Value.okWide Tryd.prog W r b0 66 v) (h : DataW.Trod enc Tryd.prog W base (fun _ => true) held 66 v d p) :
    ∃ a0 c0 x0 a1 c1 x1, v = .agg #[.slice a0 (List.length x0) c0, .slice a1 (List.length x1) c1] ∧ Bs W a0 c0 x0 ∧ Bs W a1 c1 x1 := by
  have hagg : ∃ cs, v = .agg cs := by
    simp only [Value.okWide, Tryd.underlying66] at hv
    obtain ⟨cs, h1, _⟩ := hv
    exact ⟨cs, h1⟩
  obtain ⟨cs, rfl⟩ := hagg
  obtain ⟨fuel, hf⟩ := h
  have hP : Tryd.prog.cellsOf 43 = 1 := by kernel_rfl
  have hF : Tryd.prog.cellsOf 66 = 2 := by kernel_rfl
  cases fuel with
  | zero => simp [DataW.trod] at hf
  | succ fuel =>
    simp only [DataW.trod, Tryd.underlying66, hP, hF] at hf
    split at hf
    · rename_i hl
      obtain ⟨xs, hm, hx⟩ := Option.map_eq_some_iff.1 hf
      obtain ⟨_, _, h0⟩ := Lib.mapM_at hm 0 _ rfl
      obtain ⟨_, _, h1⟩ := Lib.mapM_at hm 1 _ rfl
      obtain ⟨a0, c0, x0, e0, k0⟩ := open_bs h0
      obtain ⟨a1, c1, x1, e1, k1⟩ := open_bs h1
      refine ⟨a0, c0, x0, a1, c1, x1, ?_, k0, k1⟩
      simp only [Value.cells] at hl e0 e1
      have g0 := take1 e0
      have g1 := take1 e1
      have : cs.toList = [.slice a0 x0.length c0, .slice a1 x1.length c1] := by
        generalize cs.toList = ds at *
        match ds, hl, g0, g1 with
        | [_, _], _, g0, g1 =>
          simp at g0 g1
          subst g0 g1
          rfl
      rw [← Array.toList_inj.1 (show cs.toList = (#[Value.slice a0 x0.length c0, .slice a1 x1.length c1] : Array Value).toList from this)]
    · cases hf

theorem ActK.cells_at {x : ActK} (h : x.p.ok) : x.cells[0]? = some (.int .i64 x.kind) ∧ x.cells[1]? = some (.int .i64 x.copies) ∧ x.cells[2]? = some (.int .i64 x.which) ∧ x.cells[3]? = some (.int .i64 x.at') ∧ x.cells[39]? = some (.slice x.ba x.bs.length x.bc) := by
  have hl := Pt.vs_len h
  refine ⟨rfl, rfl, rfl, rfl, ?_⟩
  unfold ActK.cells
  rw [List.getElem?_append_right (by simp [hl])]
  simp [hl]
theorem ActK.cells_ptr {x : ActK} (h : x.p.ok) : x.p.vs = (x.cells.drop 4).take 35 := by
  have hl := Pt.vs_len h
  unfold ActK.cells
  simp [hl]
theorem ActK.cells_len {x : ActK} (h : x.p.ok) : x.cells.length = 40 := by
  have hl := Pt.vs_len h
  unfold ActK.cells
  simp [hl]
theorem ActK.cells_one (x : ActK) : ∀ v ∈ x.cells, v.oneCell' = true := by
  intro v hv
  unfold ActK.cells at hv
  simp only [List.mem_append, List.mem_cons, List.not_mem_nil, or_false] at hv
  rcases hv with ((rfl | rfl | rfl | rfl) | hv) | rfl
  all_goals first | rfl | exact Pt.vs_one _ v hv
theorem ActsK.stays {W W' : World} {a : Option Addr} {xs : List ActK} (h : ActsK W a xs) (hb : Below W.heap.size W W') : ActsK W' a xs := by
  refine ⟨?_, fun x hx => ⟨(h.ok x hx).kind, (h.ok x hx).copies, (h.ok x hx).which, (h.ok x hx).at', (h.ok x hx).p, (h.ok x hx).bs.stays hb⟩⟩
  rcases h.lay with h0 | ⟨b, off, rfl, hc⟩
  · exact .inl h0
  · refine .inr ⟨b, off, rfl, fun i hi j hj => ?_⟩
    have h1 := hc i hi j hj
    have hx : (xs.getD i default) ∈ xs := by simp [List.getD, hi]
    have hlen := ActK.cells_len (h.ok _ hx).p
    have h2 : ∃ v, (xs.getD i default).cells[j]? = some v := ⟨_, List.getElem?_eq_getElem (by omega)⟩
    obtain ⟨v, hv⟩ := h2
    rw [hv] at h1 ⊢
    rw [hb.cell (World.block_lt_of_cell? W _ h1)]
    exact h1
theorem ActsK.at {W : World} {a : Option Addr} {xs : List ActK} (h : ActsK W a xs) {i : Nat} (hi : i < xs.length) :
    ∃ b off, a = some ⟨b, off, none⟩ ∧ (∀ j, j < 40 → W.cell? ⟨b, off + i * 40 + j, none⟩ = (xs.getD i default).cells[j]?) ∧ ActKOk W (xs.getD i default) := by
  have hx : (xs.getD i default) ∈ xs := by simp [List.getD, hi]
  rcases h.lay with h0 | ⟨b, off, h1, h2⟩
  · rw [h0] at hi; simp at hi
  · exact ⟨b, off, h1, fun j hj => by rw [Nat.mul_comm i 40]; exact h2 i hi j hj, h.ok _ hx⟩

end
end Go.Proofs.YtjlmldhlmnafnaaDoor

/-
  From what a row lists to what the walks ask: the two tables of package sha; a world that has them.
-/

namespace Go.Proofs.YtjlmldhlmnafnaaDoor
set_option linter.unusedSimpArgs false
set_option linter.unusedVariables false
set_option maxRecDepth 100000
open Go.RowKit

theorem stepsData : (Rows.laid_cautery_sha_steps : DataW Unit) = Lib.tabData .u32 (ints stepNums) := rfl
theorem firstsData : (Rows.laid_cautery_sha_firsts : DataW Unit) = Lib.tabData .u32 (ints firsts8.list) := rfl
theorem stepsAt : Tryd.prog.globalNamed "cautery/sha.steps" = some 1 := by kernel_rfl
theorem firstsAt : Tryd.prog.globalNamed "cautery/sha.firsts" = some 0 := by kernel_rfl
theorem stepsType : (Tryd.prog.globals[1]?).map (·.type) = some 163 := by kernel_rfl
theorem firstsType : (Tryd.prog.globals[0]?).map (·.type) = some 149 := by kernel_rfl

theorem vars_of_laid {W : World} (h : laidMet Tryd.prog [("cautery/sha.steps", Rows.laid_cautery_sha_steps), ("cautery/sha.firsts", Rows.laid_cautery_sha_firsts)] W) : Vars W := by
  rw [stepsData, firstsData] at h
  have h1 := Lib.tabIs_of_head stepsAt stepsType Tryd.underlying163 Tryd.underlying34 (by kernel_rfl) (by kernel_rfl) h
  have h2 := Lib.tabIs_of_head firstsAt firstsType Tryd.underlying149 Tryd.underlying34 (by kernel_rfl) (by kernel_rfl) h.tail
  exact ⟨fun i hi => h1.cell stepsAt i hi, fun i hi => h2.cell firstsAt i hi⟩

noncomputable def laidWorld (os : Os) : World :=
  let w0 := World.holding Tryd.prog os ⟨#[], #[], []⟩
  { w0 with heap := (w0.heap.modify 1 fun
      | .cells _ t frozen => .cells ((ints stepNums).map (Value.int .u32)).toArray t frozen
      | o => o).modify 0 fun
      | .cells _ t frozen => .cells ((ints firsts8.list).map (Value.int .u32)).toArray t frozen
      | o => o }

theorem laid_met (os : Os) (args : Array Value) : laidMet Tryd.prog [("cautery/sha.steps", Rows.laid_cautery_sha_steps), ("cautery/sha.firsts", Rows.laid_cautery_sha_firsts)] ((laidWorld os).forCall (fun _ _ => 0) ⟨#[], args, []⟩).memory :=
  laidMet_of_run' 8 (by kernel_rfl) (by kernel_rfl)
end Go.Proofs.YtjlmldhlmnafnaaDoor
