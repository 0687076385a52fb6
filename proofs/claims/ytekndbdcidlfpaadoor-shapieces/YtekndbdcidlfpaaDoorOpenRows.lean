/-
  A slice of slices of bytes that came in.
-/
import Derived.Test.YtekndbdcidlfpaaDoorOpens
import Derived.Test.YtekndbdcidlfpaaDoorAll
namespace Go.Proofs.YtekndbdcidlfpaaDoor
set_option linter.unusedSimpArgs false
set_option linter.unusedVariables false
open Go.RowKit Go.ChangeShapes Go.WideShapes

theorem open_rows {H : Type} {enc : TypeId × Value → H} {P : Program} {W : World} {base : Nat} {t e q : TypeId} (ht : P.underlying t = some (.slice e)) (he : P.underlying e = some (.slice q)) (hq : P.underlying q = some (.int .u8)) (ce : P.cellsOf e = 1) (cq : P.cellsOf q = 1)
    {r : Reach} {b0 : Nat} {v : Value} {d : DataW H} {p : List MemPlace} {held : Bool} (hv : Value.okWide P W r b0 t v) (h : DataW.Trod enc P W base (fun _ => true) held t v d p) :
    ∃ (a : Option Addr) (c : Nat) (ps : List Part), v = .slice a ps.length c ∧ Parts W a ps ∧ ps.length ≤ 9223372036854775807 := by
  obtain ⟨a, len, cap, rfl⟩ := okWide_slice ht hv
  obtain ⟨fuel, hf⟩ := h
  rcases Go.Deep.open_int_rows ht he hq ce cq hf with ⟨hcs, _⟩ | ⟨x, l, c, A, L, C, Z, hcs, _, hl, hm, _, hrow⟩
  · simp [Value.cells] at hcs
    obtain ⟨rfl, rfl, rfl⟩ := hcs
    exact ⟨none, 0, [], rfl, ⟨.inl rfl, fun p hp => by cases hp⟩, by simp⟩
  · simp [Value.cells] at hcs
    obtain ⟨rfl, rfl, rfl⟩ := hcs
    have hB : ∀ i, i < len → Bs W (A i) (C i) ((Z i).take (L i)) ∧ ((Z i).take (L i)).length = L i := fun i hi => by
      obtain ⟨_, h1, h2, h3, h4, h5, h6⟩ := hrow i (by omega)
      have hlen : ((Z i).take (L i)).length = L i := by simp; omega
      refine ⟨⟨fun y hy => wf_u8 (h4 y (List.mem_of_mem_take hy)), by omega, h2, h5, ?_⟩, hlen⟩
      by_cases h0 : L i = 0
      · exact .inl (by simp [h0])
      · right
        cases hA : A i with
        | none => exact absurd (h5 hA) (by omega)
        | some a' =>
          obtain ⟨b, off, spot⟩ := a'
          have hc := (h6 _ hA).2
          have hc0 := hc 0 (by omega)
          have hspot : spot = none := by simpa [Addr.add] using World.cell?_spot hc0
          subst hspot
          refine ⟨b, off, rfl, fun j hj => ?_⟩
          rw [hlen] at hj
          have hcj := hc j (by omega)
          have hpl : (⟨b, off, none⟩ : Addr).add j = ⟨b, off + j, none⟩ := by unfold Addr.add; split <;> simp_all
          rw [hpl] at hcj
          rw [hcj]
          simp [List.getD, List.getElem?_take, hj, show j < (Z i).length by omega]
    refine ⟨some x, cap, (List.range len).map (fun i => ⟨A i, C i, (Z i).take (L i)⟩), by simp, ⟨?_, ?_⟩, ?_⟩
    · by_cases h0 : len = 0
      · exact .inl (by simp [h0])
      · right
        obtain ⟨b, off, spot⟩ := x
        have hc0 := (hrow 0 (by omega)).1
        have hspot : spot = none := by simpa [Addr.add] using World.cell?_spot hc0
        subst hspot
        refine ⟨b, off, rfl, fun i p hp => ?_⟩
        have hi : i < len := by
          rcases Nat.lt_or_ge i len with h1 | h1
          · exact h1
          · rw [List.getElem?_eq_none (by simpa using h1)] at hp; cases hp
        have hpl : (⟨b, off, none⟩ : Addr).add i = ⟨b, off + i, none⟩ := by unfold Addr.add; split <;> simp_all
        have h1 := (hrow i (by omega)).1
        rw [hpl] at h1
        simp [hi] at hp
        subst hp
        rw [h1, (hB i hi).2]
    · intro p hp
      obtain ⟨i, hi, rfl⟩ := List.mem_map.1 hp
      exact (hB i (by simpa using hi)).1
    · simp
      unfold maxLen at hm
      omega
end Go.Proofs.YtekndbdcidlfpaaDoor
