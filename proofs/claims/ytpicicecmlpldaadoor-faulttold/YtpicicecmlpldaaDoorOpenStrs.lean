/-
  Strings that came in.
-/
import Derived.Test.YtpicicecmlpldaaDoorStrs
import Derived.SliceStrings
import Derived.ChangeMaps5
import Derived.WideShapes
import Derived.ChangeSlices
namespace Go.Proofs.YtpicicecmlpldaaDoor
set_option linter.unusedSimpArgs false
set_option linter.unusedVariables false
open Go.RowKit Go.ChangeShapes Go.WideShapes

section
variable {H : Type} {enc : TypeId × Value → H} {P : Program} {W : World} {base : Nat}

theorem open_strs {t e : TypeId} (ht : P.underlying t = some (.slice e)) (he : P.underlying e = some .string) (hc : P.cellsOf e = 1) {r : Reach} {b0 : Nat} {v : Value} {d : DataW H} {p : List MemPlace} {held : Bool}
    (hv : Value.okWide P W r b0 t v) (h : DataW.Trod enc P W base (fun _ => true) held t v d p) : ∃ a c xs, v = .slice a (List.length xs) c ∧ Ss W a xs := by
  obtain ⟨a, len, cap, rfl⟩ := okWide_slice ht hv
  obtain ⟨fuel, hf⟩ := h
  rcases open_strings ht he hc hf with ⟨hcs, _⟩ | ⟨x, l, c, ss, hcs, _, hl, hm, hz, _, hcell, _⟩
  · simp [Value.cells] at hcs
    obtain ⟨rfl, rfl, rfl⟩ := hcs
    exact ⟨none, 0, [], rfl, fun hp => absurd hp (by simp)⟩
  · simp [Value.cells] at hcs
    obtain ⟨rfl, rfl, rfl⟩ := hcs
    simp at hz
    have hlen : (ss.take len).length = len := by simp; omega
    refine ⟨some x, cap, ss.take len, by rw [hlen], fun hp => ?_⟩
    rw [hlen] at hp ⊢
    obtain ⟨b, off, path⟩ := x
    have h0 := hcell 0 (by omega)
    have hpath : path = none := by simpa [Addr.add] using World.cell?_spot h0
    subst hpath
    refine ⟨b, off, rfl, fun i hi => ?_⟩
    have hci := hcell i (by omega)
    have hpl : (⟨b, off, none⟩ : Addr).add i = ⟨b, off + i, none⟩ := by unfold Addr.add; split <;> simp_all
    rw [hpl] at hci
    rw [show (ss.take len).getD i ByteArray.empty = ss.getD i ByteArray.empty by simp [List.getD_eq_getElem?_getD, List.getElem?_take, hi]]
    exact hci
end
end Go.Proofs.YtpicicecmlpldaaDoor
