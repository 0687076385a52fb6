/-
  Lists of cells, and new blocks beside a list.
-/
import Derived.Test.YthbldjnpnligpaaDoorG42
import Derived.Test.YthbldjnpnligpaaDoorG40
namespace Go.Proofs.YthbldjnpnligpaaDoor
set_option linter.unusedSimpArgs false
set_option linter.unusedVariables false
set_option maxRecDepth 100000
open Go.RowKit

section
variable {B : Nat} {I : (Nat → Prop) → World → Prop} {w w' : World} {L : List Ent} {T : List Sli}
/-- A block that is new, wherever. -/
theorem Sep.addAt (h : Sep B I w L T) {t : TypeId} {g n : Nat} {vs : List Value} (hb : Below w.heap.size w w') (hB : Blk t w' g vs) (hg : w.heap.size ≤ g) (hv : Vals n vs) : Sep B I w' (⟨g, t, n, vs⟩ :: L) T := by
  have hs := h.stays hb
  refine ⟨h.fr, h.fr.new h.inv hb (fun j hj => ?_), fun e he => ?_, ?_, fun s hs' => ⟨(hs.sl s hs').1, fun x hx => ⟨((hs.sl s hs').2 x hx).1, ((hs.sl s hs').2 x hx).2.1, fun e he => ?_⟩⟩⟩
  · rcases hj with ⟨e, he, rfl⟩ | hj
    · rcases List.mem_cons.1 he with rfl | he
      · exact .inr ⟨hg, hB.lt⟩
      · exact .inl (.inl ⟨e, he, rfl⟩)
    · exact .inl (.inr hj)
  · rcases List.mem_cons.1 he with rfl | he
    · exact ⟨hB, Nat.le_trans (h.fr.size h.inv) hg, hv⟩
    · exact hs.blk e he
  · rw [List.map_cons, List.nodup_cons]
    refine ⟨fun hm => ?_, h.nd⟩
    obtain ⟨e, he, h1⟩ := List.mem_map.1 hm
    have := (h.blk e he).1.lt
    simp only at h1
    omega
  · rcases List.mem_cons.1 he with rfl | he
    · have := ((h.sl s hs').2 x hx).2.1
      show g ≠ _
      omega
    · exact ((hs.sl s hs').2 x hx).2.2 e he
theorem Sep.addAt2 (h : Sep B I w L T) {t t' : TypeId} {g n g' n' : Nat} {vs vs' : List Value} (hb : Below w.heap.size w w') (hB : Blk t w' g vs) (hg : w.heap.size ≤ g) (hv : Vals n vs) (hB' : Blk t' w' g' vs') (hg' : w.heap.size ≤ g') (hv' : Vals n' vs') (hne : g ≠ g') : Sep B I w' (⟨g', t', n', vs'⟩ :: ⟨g, t, n, vs⟩ :: L) T := by
  have h1 := h.addAt hb hB hg hv
  have h2 := h.addAt hb hB' hg' hv'
  refine ⟨h.fr, h.fr.new h.inv hb (fun j hj => ?_), fun e he => ?_, ?_, fun s hs' => ⟨(h1.sl s hs').1, fun x hx => ⟨((h1.sl s hs').2 x hx).1, ((h1.sl s hs').2 x hx).2.1, fun e he => ?_⟩⟩⟩
  · rcases hj with ⟨e, he, rfl⟩ | hj
    · rcases List.mem_cons.1 he with rfl | he
      · exact .inr ⟨hg', hB'.lt⟩
      · rcases List.mem_cons.1 he with rfl | he
        · exact .inr ⟨hg, hB.lt⟩
        · exact .inl (.inl ⟨e, he, rfl⟩)
    · exact .inl (.inr hj)
  · rcases List.mem_cons.1 he with rfl | he
    · exact h2.blk _ List.mem_cons_self
    · exact h1.blk e he
  · rw [List.map_cons, List.nodup_cons]
    refine ⟨fun hm => ?_, h1.nd⟩
    obtain ⟨e, he, h3⟩ := List.mem_map.1 hm
    simp only at h3
    rcases List.mem_cons.1 he with rfl | he
    · exact hne h3
    · have := (h.blk e he).1.lt; omega
  · rcases List.mem_cons.1 he with rfl | he
    · exact (h2.sl s hs').2 x hx |>.2.2 _ List.mem_cons_self
    · exact (h1.sl s hs').2 x hx |>.2.2 e he
end
/-- What lies in a list's row. -/
theorem Rw.holds.cells {r : Rw} {B : Nat} {w : World} (h : r.holds B w) {i : Nat} (hi : i < r.n) : ∃ b c, r.v = .slice (some ⟨b, 0, none⟩) r.n c ∧ ∀ j, j < r.sz → w.cell? ⟨b, i * r.sz + j, none⟩ = r.xs[i * r.sz + j]? := by
  have h' := h
  rcases h.2 with ⟨_, h2⟩ | ⟨g, cap, cur, h3, _⟩
  · omega
  · obtain ⟨v, t, sz, n, xs⟩ := r
    simp only at h3 hi
    subst h3
    refine ⟨g, cap, rfl, fun j hj => ?_⟩
    exact World.ownsRow.cellAt h' (i * sz + j) (by
      have h1 := Nat.mul_le_mul_right sz (show i + 1 ≤ n from hi)
      have hj' : j < sz := hj
      rw [Nat.succ_mul] at h1
      show i * sz + j < n * sz
      omega)

end Go.Proofs.YthbldjnpnligpaaDoor
