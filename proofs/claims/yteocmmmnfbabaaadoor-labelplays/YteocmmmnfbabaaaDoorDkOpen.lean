/-
  Numbers and bytes that came in.
-/
import Derived.Test.YteocmmmnfbabaaaDoorOpens
import Derived.Test.YteocmmmnfbabaaaDoorCrash
import Derived.Deep.Slices
namespace Go.Proofs.YteocmmmnfbabaaaDoor
set_option linter.unusedSimpArgs false
set_option linter.unusedVariables false
open Go.RowKit Go.ChangeShapes Go.WideShapes

section
variable {H : Type} {enc : TypeId × Value → H} {W : World} {base : Nat}

theorem open_is {fuel : Nat} {held : Bool} {cs : List Value} {x : DataW H × List MemPlace} (h : DataW.trod enc Tryd.prog W base (fun _ => true) held fuel 53 cs = some x) :
    ∃ a c ks, cs = [.slice a (List.length ks) c] ∧ Is W a ks ∧ ks.length ≤ 9223372036854775807 := by
  rcases open_ints Tryd.underlying53 Tryd.underlying3 (by kernel_rfl) h with ⟨hcs, _⟩ | ⟨x, l, c, zs, hcs, _, hl, hm, hz, _, hcell, hwz⟩
  · exact ⟨none, 0, [], by simpa using hcs, .inl rfl, by simp⟩
  · simp at hz
    have hlen : (zs.take l).length = l := by simp; omega
    unfold maxLen at hm
    refine ⟨some x, c, zs.take l, by rw [hlen]; exact hcs, ?_, by omega⟩
    by_cases h0 : l = 0
    · exact .inl (by simp [h0])
    · right
      obtain ⟨b, off, spot⟩ := x
      have hc0 := hcell 0 (by omega)
      have hspot : spot = none := by simpa [Addr.add] using World.cell?_spot hc0
      subst hspot
      refine ⟨b, off, rfl, fun i hi => ?_⟩
      rw [hlen] at hi
      have hci := hcell i (by omega)
      have hpl : (⟨b, off, none⟩ : Addr).add i = ⟨b, off + i, none⟩ := by unfold Addr.add; split <;> simp_all
      rw [hpl] at hci
      rw [hci]
      simp [List.getD, List.getElem?_take, hi]

theorem open_bs {fuel : Nat} {held : Bool} {cs : List Value} {x : DataW H × List MemPlace} (h : DataW.trod enc Tryd.prog W base (fun _ => true) held fuel 27 cs = some x) :
    ∃ a c xs, cs = [.slice a (List.length xs) c] ∧ Bs W a c xs := by
  have hr : ∃ a len cap zs, cs = [.slice a len cap] ∧ IsRow .u8 W a len cap zs := by
    rcases open_ints Tryd.underlying27 Tryd.underlying5 (by kernel_rfl) h with ⟨hcs, _⟩ | ⟨x, l, c, zs, hcs, _, hl, hm, hz, _, hcell, hwz⟩
    · exact ⟨none, 0, 0, [], by simpa using hcs, .inl ⟨rfl, rfl, rfl, rfl⟩⟩
    · exact ⟨some x, l, c, zs, hcs, .inr ⟨_, rfl, hl, hm, by simpa using hz, hcell, hwz⟩⟩
  obtain ⟨a, len, cap, zs, hcs, hr⟩ := hr
  obtain ⟨xs, rfl, hB⟩ := came hr
  exact ⟨a, cap, xs, hcs, hB⟩

theorem take1 {α : Type} {l : List α} {i : Nat} {x : α} (h : (l.drop i).take 1 = [x]) : l[i]? = some x := by
  have := congrArg (·[0]?) h
  simpa [List.getElem?_take, List.getElem?_drop] using this

end

end Go.Proofs.YteocmmmnfbabaaaDoor
