/-
  What is taken: it was free; how it is given back; no program here.
-/
import Derived.Test.YthbldjnpnligpaaDoorG11
import Derived.Test.YthbldjnpnligpaaDoorG12
namespace Go.Proofs.YthbldjnpnligpaaDoor
set_option linter.unusedSimpArgs false
set_option linter.unusedVariables false
set_option maxRecDepth 100000

theorem srt_lt {o : List Nat} (h : o.Pairwise (· < ·)) {i j : Nat} (hij : i < j) (hj : j < o.length) : o.getD i 0 < o.getD j 0 := by
  have h1 : i < o.length := by omega
  have := List.pairwise_iff_getElem.1 h i j h1 hj hij
  simpa [List.getD, h1, hj] using this

/-- Of what was taken, all from k on is still used. -/
structure Gv (n : Nat) (o : List Nat) (k : Nat) (l : List Bool) : Prop where
  len : l.length = n
  lab : Lab l
  mem : ∀ j, k ≤ j → j < o.length → 4 ≤ o.getD j 0 ∧ o.getD j 0 < n ∧ l.getD (o.getD j 0) false = true
  srt : o.Pairwise (· < ·)

theorem Gv.once {n k : Nat} {o : List Nat} {l : List Bool} (h : Gv n o k l) (hk : k < o.length) : giveL l (o.getD k 0) = (l.set (o.getD k 0) false, 0) := by
  obtain ⟨h1, h2, h3⟩ := h.mem k (Nat.le_refl _) hk
  unfold giveL
  rw [if_pos ⟨by rw [h.len]; exact h2, h1, h3⟩]
theorem Gv.next {n k : Nat} {o : List Nat} {l : List Bool} (h : Gv n o k l) (hk : k < o.length) : Gv n o (k + 1) (l.set (o.getD k 0) false) := by
  obtain ⟨h1, h2, h3⟩ := h.mem k (Nat.le_refl _) hk
  refine ⟨by simpa using h.len, fun i hi => ?_, fun j hj hjl => ?_, h.srt⟩
  · rw [getD_set _ _ _ _ (by rw [h.len]; exact h2), if_neg (by omega)]
    exact h.lab i hi
  · obtain ⟨g1, g2, g3⟩ := h.mem j (by omega) hjl
    refine ⟨g1, g2, ?_⟩
    have := srt_lt h.srt (show k < j by omega) hjl
    rw [getD_set _ _ _ _ (by rw [h.len]; exact h2), if_neg (by omega)]
    exact g3
end Go.Proofs.YthbldjnpnligpaaDoor

/-
  What Load tells; no program here.
-/

namespace Go.Proofs.YthbldjnpnligpaaDoor
set_option linter.unusedSimpArgs false
set_option linter.unusedVariables false
set_option maxRecDepth 100000

/-- The bit j of bytes. -/
def bitX (xs : List Int) (j : Nat) : Bool := (xs.getD (j / 8) 0).toNat.testBit (j % 8)
/-- May it not be? -/
def bad (xs : List Int) (n j : Nat) : Bool := (bitX xs j && decide (n ≤ j)) || (!bitX xs j && decide (j < 4))
/-- May they be? -/
def okX (xs : List Int) (n : Nat) : Prop := ∀ j, j < 512 → bad xs n j = false
/-- The first i bits. -/
def ldL (xs : List Int) (n i : Nat) : List Bool := (List.range n).map (fun j => decide (j < i) && bitX xs j)

theorem ldL_at (xs : List Int) (n i j : Nat) : (ldL xs n i).getD j false = (decide (j < n) && (decide (j < i) && bitX xs j)) := by
  by_cases h : j < n
  · simp [ldL, List.getD, h]
  · simp [ldL, List.getD, h]
/-- The map of bytes. -/
def mapX (xs : List Int) (n : Nat) : List Bool := ldL xs n 512
theorem mapX_at (xs : List Int) (n j : Nat) (hn : n ≤ 512) (hj : j < n) : (mapX xs n).getD j false = bitX xs j := by
  rw [mapX, ldL_at]
  simp [hj, show j < 512 by omega]
theorem okX.lab {xs : List Int} {n : Nat} (h : okX xs n) (h4 : 4 ≤ n) (hn : n ≤ 512) : Lab (mapX xs n) := fun i hi => by
  rw [mapX_at _ _ _ hn (by omega)]
  have := h i (by omega)
  unfold bad at this
  cases hb : bitX xs i
  · rw [hb] at this; simp [hi] at this
  · rfl
end Go.Proofs.YthbldjnpnligpaaDoor

/-
  The document's map: truths behind a slice; what is told of them.
-/

namespace Go.Proofs.YthbldjnpnligpaaDoor
set_option linter.unusedSimpArgs false
set_option linter.unusedVariables false
set_option maxRecDepth 100000
open Go.RowKit

/-- Truths at the beginning of a block. -/
def Tr (w : World) (g c : Nat) (l : List Bool) : Prop := ∃ rest : List Value, Blk 4 w g (l.map Value.bool ++ rest) ∧ c = l.length + rest.length ∧ c ≤ maxLen

theorem Tr.stays {w w' : World} {g c : Nat} {l : List Bool} (h : Tr w g c l) (hb : Below w.heap.size w w') : Tr w' g c l := by
  obtain ⟨r, h1, h2, h3⟩ := h
  exact ⟨r, h1.stays hb, h2, h3⟩
theorem Tr.but {w w' : World} {g g' c : Nat} {l : List Bool} (h : Tr w g c l) (hb : But g' w w') (hne : g ≠ g') : Tr w' g c l := by
  obtain ⟨r, h1, h2, h3⟩ := h
  exact ⟨r, h1.but hb hne, h2, h3⟩
theorem Tr.lt {w : World} {g c : Nat} {l : List Bool} (h : Tr w g c l) : g < w.heap.size := by
  obtain ⟨r, h1, h2, h3⟩ := h
  exact h1.lt
theorem Tr.cap {w : World} {g c : Nat} {l : List Bool} (h : Tr w g c l) : l.length ≤ c ∧ c ≤ maxLen := by
  obtain ⟨r, h1, h2, h3⟩ := h
  exact ⟨by omega, h3⟩
theorem Tr.cell {w : World} {g c : Nat} {l : List Bool} (h : Tr w g c l) (i : Nat) (hi : i < l.length) : w.cell? ⟨g, i, none⟩ = some (.bool (l.getD i false)) := by
  obtain ⟨r, h1, h2, h3⟩ := h
  rw [h1.cell i, List.getElem?_append_left (by simpa using hi)]
  simp [List.getD, hi]
theorem Tr.free {w : World} {g c : Nat} {l : List Bool} (h : Tr w g c l) (i : Nat) : w.frozen? ⟨g, i, none⟩ = false := by
  obtain ⟨r, h1, h2, h3⟩ := h
  exact h1.free i
theorem Tr.set {w : World} {g c : Nat} {l : List Bool} (h : Tr w g c l) (i : Nat) (hi : i < l.length) (b : Bool) : Tr (w.setCell ⟨g, i, none⟩ (.bool b)) g c (l.set i b) := by
  obtain ⟨r, h1, h2, h3⟩ := h
  refine ⟨r, ?_, by simpa using h2, h3⟩
  have := h1.set i (.bool b)
  rw [List.set_append_left _ _ (by simpa using hi), ← List.map_set] at this
  exact this

theorem sizesB : (Tryd.prog.info? 4).map (·.size) = some 1 := by kernel_rfl
theorem elemB : Tryd.prog.elem 31 = 4 := by kernel_rfl
theorem index_tr (g n c i : Nat) (hi : i < n) (K : IntKind) (u : World) : (Instr.indexAt 31 (.slice (some ⟨g, 0, none⟩) n c) (.int K (i : Int))).run Tryd.prog u = .ok (.pointer (some ⟨g, i, none⟩)) u := by
  have := index_run 31 4 Tryd.underlying31 sizesB elemB g 0 n c K i hi u
  rwa [Nat.zero_add] at this

section
variable {g c : Nat} {l : List Bool}

end
end Go.Proofs.YthbldjnpnligpaaDoor
