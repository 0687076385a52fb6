/-
  Pointers that came in, as the walks take them.
-/
import Derived.Test.YteocmmmnfbabaaaDoorOpens
import Derived.Test.YteocmmmnfbabaaaDoorPtrEq
namespace Go.Proofs.YteocmmmnfbabaaaDoor
set_option linter.unusedSimpArgs false
set_option linter.unusedVariables false
set_option maxRecDepth 100000
open Go.RowKit Go.ChangeShapes Go.WideShapes

theorem wf_u32 {n : Int} (h : (Lit.int .u32 n).wf = true) : ∃ k : Nat, n = k ∧ k < 4294967296 := by
  simp [Lit.wf, IntKind.min, IntKind.max, IntKind.bits, IntKind.signed] at h
  exact ⟨n.toNat, by omega, by omega⟩

section
variable {H : Type} {enc : TypeId × Value → H} {W : World} {base : Nat}

theorem open_ptr_cs {fuel : Nat} {held : Bool} {cs : List Value} {x : DataW H × List MemPlace} (h : DataW.trod enc Tryd.prog W base (fun _ => true) held fuel 26 cs = some x) : ∃ p : Pt, cs = p.vs ∧ p.ok := by
  have hH : Tryd.prog.cellsOf 23 = 32 := by kernel_rfl
  have hU : Tryd.prog.cellsOf 22 = 1 := by kernel_rfl
  have hT : Tryd.prog.cellsOf 24 = 2 := by kernel_rfl
  have hB : Tryd.prog.cellsOf 5 = 1 := by kernel_rfl
  have hP : Tryd.prog.cellsOf 26 = 35 := by kernel_rfl
  cases fuel with
  | zero => simp [DataW.trod] at h
  | succ fuel =>
    simp only [DataW.trod, Tryd.underlying26, hP] at h
    split at h
    · rename_i hl
      obtain ⟨xs, hm, hx⟩ := Option.map_eq_some_iff.1 h
      obtain ⟨_, _, h0⟩ := Lib.mapM_at hm 0 _ rfl
      obtain ⟨_, _, h1⟩ := Lib.mapM_at hm 1 _ rfl
      obtain ⟨_, _, h2⟩ := Lib.mapM_at hm 2 _ rfl
      simp only [hH, hU, hT] at h0 h1 h2
      obtain ⟨zs, e0, l0, r0⟩ := open_array Tryd.underlying23 Tryd.underlying5 hB hH h0
      obtain ⟨n1, e1, _, w1⟩ := DataW.trod_int Tryd.underlying22 h1
      obtain ⟨ys, e2, l2, r2⟩ := open_array Tryd.underlying24 Tryd.underlying22 hU hT h2
      obtain ⟨b, rfl, hb⟩ := wf_u32 w1
      match ys, l2, e2, r2 with
      | [y0, y1], _, e2, r2 =>
        obtain ⟨a0, rfl, ha0⟩ := wf_u32 (r2 y0 (by simp))
        obtain ⟨a1, rfl, ha1⟩ := wf_u32 (r2 y1 (by simp))
        refine ⟨⟨zs, b, a0, a1⟩, ?_, ⟨l0, fun z hz => wf_u8 (r0 z hz), hb, ha0, ha1⟩⟩
        unfold Pt.vs
        simp only
        have c1 : cs = cs.take 32 ++ cs.drop 32 := (List.take_append_drop _ _).symm
        have c2 : cs.drop 32 = (cs.drop 32).take 1 ++ cs.drop 33 := by rw [show 33 = 32 + 1 from rfl, ← List.drop_drop]; exact (List.take_append_drop _ _).symm
        have c3 : (cs.drop 33).take 2 = cs.drop 33 := List.take_of_length_le (by simp; omega)
        rw [List.drop_zero] at e0
        rw [c1, c2, ← c3, e0, e1, e2]
        rfl
    · cases h

theorem open_ptr {r : Reach} {b0 : Nat} {v : Value} {d : DataW H} {p : List MemPlace} {held : Bool} (hv : Value.okWide Tryd.prog W r b0 26 v) (h : DataW.Trod enc Tryd.prog W base (fun _ => true) held 26 v d p) :
    ∃ q : Pt, v = .agg q.vs.toArray ∧ q.ok := by
  have hagg : ∃ cs, v = .agg cs := by
    simp only [Value.okWide, Tryd.underlying26] at hv
    obtain ⟨cs, h1, _⟩ := hv
    exact ⟨cs, h1⟩
  obtain ⟨cs, rfl⟩ := hagg
  obtain ⟨fuel, hf⟩ := h
  obtain ⟨q, h1, h2⟩ := open_ptr_cs hf
  refine ⟨q, ?_, h2⟩
  simp only [Value.cells] at h1
  rw [← h1]

end
end Go.Proofs.YteocmmmnfbabaaaDoor
