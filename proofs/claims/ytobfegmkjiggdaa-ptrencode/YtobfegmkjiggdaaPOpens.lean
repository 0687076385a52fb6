/-
  Pointers that came in, as the walks take them.
-/
import Derived.Test.YtobfegmkjiggdaaOpens
import Derived.Test.YtobfegmkjiggdaaPtrEq
namespace Go.Proofs.Ytobfegmkjiggdaa
set_option linter.unusedSimpArgs false
set_option linter.unusedVariables false
open Go.RowKit Go.ChangeShapes Go.WideShapes

theorem wf_u32 {n : Int} (h : (Lit.int .u32 n).wf = true) : ∃ k : Nat, n = k ∧ k < 4294967296 := by
  simp [Lit.wf, IntKind.min, IntKind.max, IntKind.bits, IntKind.signed] at h
  exact ⟨n.toNat, by omega, by omega⟩

section
variable {H : Type} {enc : TypeId × Value → H} {W : World} {base : Nat}

theorem open_ptr_cs {fuel : Nat} {held : Bool} {cs : List Value} {x : DataW H × List MemPlace} (h : DataW.trod enc Try.prog W base (fun _ => true) held fuel 26 cs = some x) : ∃ p : Pt, cs = p.vs ∧ p.ok := by
  have hH : Try.prog.cellsOf 22 = 32 := by kernel_rfl
  have hU : Try.prog.cellsOf 23 = 1 := by kernel_rfl
  have hT : Try.prog.cellsOf 24 = 2 := by kernel_rfl
  have hB : Try.prog.cellsOf 5 = 1 := by kernel_rfl
  have hP : Try.prog.cellsOf 26 = 35 := by kernel_rfl
  cases fuel with
  | zero => simp [DataW.trod] at h
  | succ fuel =>
    simp only [DataW.trod, Try.underlying26, hP] at h
    split at h
    · rename_i hl
      obtain ⟨xs, hm, hx⟩ := Option.map_eq_some_iff.1 h
      obtain ⟨_, _, h0⟩ := Lib.mapM_at hm 0 _ rfl
      obtain ⟨_, _, h1⟩ := Lib.mapM_at hm 1 _ rfl
      obtain ⟨_, _, h2⟩ := Lib.mapM_at hm 2 _ rfl
      simp only [hH, hU, hT] at h0 h1 h2
      obtain ⟨zs, e0, l0, r0⟩ := open_array Try.underlying22 Try.underlying5 hB hH h0
      obtain ⟨n1, e1, _, w1⟩ := DataW.trod_int Try.underlying23 h1
      obtain ⟨ys, e2, l2, r2⟩ := open_array Try.underlying24 Try.underlying23 hU hT h2
      obtain ⟨b, rfl, hb⟩ := wf_u32 w1
      match ys, l2, e2, r2 with
      | [y0, y1], _, e2, r2 =>
        obtain ⟨a0, rfl, ha0⟩ := wf_u32 (r2 y0 (by simp))
        obtain ⟨a1, rfl, ha1⟩ := wf_u32 (r2 y1 (by simp))
        refine ⟨⟨zs, b, a0, a1⟩, ?_, ⟨l0, fun z hz => wf_u8 (r0 z hz), hb, ha0, ha1⟩⟩
        unfold Pt.vs
        simp only
        have c1 : cs = cs.take 32 ++ cs.drop 32 := (List.take_append_drop _ _).symm
        have c2 : cs.drop 32 = (cs.drop 32).take 1 ++ cs.drop 33 := by rw [show 33 = 32 + 1 from rfl, ← List.drop_drop]; exact (List.take_append_drop _ _).symm
        have c3 : (cs.drop 33).take 2 = cs.drop 33 := List.take_of_length_le (by simp; omega)
        rw [List.drop_zero] at e0
        rw [c1, c2, ← c3, e0, e1, e2]
        rfl
    · cases h

theorem open_ptr {r : Reach} {b0 : Nat} {v : Value} {d : DataW H} {p : List MemPlace} {held : Bool} (hv : Value.okWide Try.prog W r b0 26 v) (h : DataW.Trod enc Try.prog W base (fun _ => true) held 26 v d p) :
    ∃ q : Pt, v = .agg q.vs.toArray ∧ q.ok := by
  have hagg : ∃ cs, v = .agg cs := by
    simp only [Value.okWide, Try.underlying26] at hv
    obtain ⟨cs, h1, _⟩ := hv
    exact ⟨cs, h1⟩
  obtain ⟨cs, rfl⟩ := hagg
  obtain ⟨fuel, hf⟩ := h
  obtain ⟨q, h1, h2⟩ := open_ptr_cs hf
  refine ⟨q, ?_, h2⟩
  simp only [Value.cells] at h1
  rw [← h1]

theorem open_four {r : Reach} {b0 : Nat} {v : Value} {d : DataW H} {p : List MemPlace} {held : Bool} (hv : Value.okWide Try.prog W r b0 36 v) (h : DataW.Trod enc Try.prog W base (fun _ => true) held 36 v d p) :
    ∃ l : List Pt, v = .agg (fourV l).toArray ∧ (∀ q ∈ l, q.ok) ∧ l.length = 4 := by
  have hagg : ∃ cs, v = .agg cs := by
    simp only [Value.okWide, Try.underlying36] at hv
    obtain ⟨cs, h1, _⟩ := hv
    exact ⟨cs, h1⟩
  obtain ⟨cs, rfl⟩ := hagg
  obtain ⟨fuel, hf⟩ := h
  have hP : Try.prog.cellsOf 26 = 35 := by kernel_rfl
  have hF : Try.prog.cellsOf 36 = 140 := by kernel_rfl
  cases fuel with
  | zero => simp [DataW.trod] at hf
  | succ fuel =>
    simp only [DataW.trod, Try.underlying36, hP, hF] at hf
    split at hf
    · rename_i hl
      obtain ⟨xs, hm, hx⟩ := Option.map_eq_some_iff.1 hf
      obtain ⟨_, _, h0⟩ := Lib.mapM_at hm 0 _ rfl
      obtain ⟨_, _, h1⟩ := Lib.mapM_at hm 1 _ rfl
      obtain ⟨_, _, h2⟩ := Lib.mapM_at hm 2 _ rfl
      obtain ⟨_, _, h3⟩ := Lib.mapM_at hm 3 _ rfl
      obtain ⟨q0, e0, k0⟩ := open_ptr_cs h0
      obtain ⟨q1, e1, k1⟩ := open_ptr_cs h1
      obtain ⟨q2, e2, k2⟩ := open_ptr_cs h2
      obtain ⟨q3, e3, k3⟩ := open_ptr_cs h3
      refine ⟨[q0, q1, q2, q3], ?_, by simp [k0, k1, k2, k3], rfl⟩
      simp only [Value.cells] at hl e0 e1 e2 e3
      have c0 : cs.toList = (cs.toList.drop (0 * 35)).take 35 ++ cs.toList.drop 35 := by rw [Nat.zero_mul, List.drop_zero]; exact (List.take_append_drop _ _).symm
      have c1 : cs.toList.drop 35 = (cs.toList.drop (1 * 35)).take 35 ++ cs.toList.drop 70 := by rw [show 70 = 35 + 35 from rfl, ← List.drop_drop]; exact (List.take_append_drop _ _).symm
      have c2 : cs.toList.drop 70 = (cs.toList.drop (2 * 35)).take 35 ++ cs.toList.drop 105 := by rw [show 105 = 70 + 35 from rfl, ← List.drop_drop]; exact (List.take_append_drop _ _).symm
      have c3 : cs.toList.drop 105 = (cs.toList.drop (3 * 35)).take 35 ++ [] := by rw [List.append_nil, List.take_of_length_le (by simp; simp at hl; omega)]
      have : cs.toList = fourV [q0, q1, q2, q3] := by
        rw [c0, c1, c2, c3, e0, e1, e2, e3]; rfl
      rw [← this]
    · cases hf
end
end Go.Proofs.Ytobfegmkjiggdaa
