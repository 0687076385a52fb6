/-
  The program's disk and the document's one beside each other.
-/
import Derived.Test.YteocmmmnfbabaaaDoorRef7
namespace Go.Proofs.YteocmmmnfbabaaaDoor
set_option linter.unusedSimpArgs false
set_option linter.unusedVariables false
open Go.RowKit

/-- Both disks, the program's among the blocks from B on, with no block in common: the program's at p, with blocks of F, holds S; the document's in the cells cs, with blocks of G, holds T. -/
structure Pair (B : Nat) (w : World) (F G : Nat → Prop) (p : Nat) (S : DS) (cs : List Value) (T : DS) : Prop where
  low : ∀ k, F k → B ≤ k ∧ k < w.heap.size
  lowG : ∀ k, G k → k < w.heap.size
  dis : ∀ k, F k → G k → False
  dk : Dk w F p S
  rf : Rf w G cs T

section
variable {B p : Nat} {w w' : World} {F G : Nat → Prop} {S S' T T' : DS} {cs cs' : List Value}

theorem Pair.stays (h : Pair B w F G p S cs T) (hb : Below w.heap.size w w') : Pair B w' F G p S cs T :=
  ⟨fun k hk => ⟨(h.low k hk).1, Nat.lt_of_lt_of_le (h.low k hk).2 hb.size⟩, fun k hk => Nat.lt_of_lt_of_le (h.lowG k hk) hb.size, h.dis, h.dk.stays hb, h.rf.stays hb⟩

/-- A call of the program's disk. -/
theorem Pair.disk (h : Pair B w F G p S cs T) (hB : B ≤ w.heap.size) (ht : Then F w w' p S') :
    ∃ F', Pair B w' F' G p S' cs T ∧ (∀ k, F' k → F k ∨ w.heap.size ≤ k) ∧ Below B w w' := by
  refine ⟨fun k => (F k ∨ w.heap.size ≤ k) ∧ k < w'.heap.size, ⟨fun k hk => ⟨?_, hk.2⟩, fun k hk => Nat.lt_of_lt_of_le (h.lowG k hk) ht.2.size, fun k hk hg => ?_, ht.1.mono (fun k hk hl => ⟨hk, hl⟩), ?_⟩, fun k hk => hk.1, ht.2.below hB (fun k hk => (h.low k hk).1)⟩
  · rcases hk.1 with h1 | h1
    · exact (h.low k h1).1
    · omega
  · rcases hk.1 with h1 | h1
    · exact h.dis k h1 hg
    · have := h.lowG k hg
      omega
  · exact h.rf.keep (fun k hg hl => ⟨ht.2.block k (fun hf => h.dis k hf hg) hl, hg⟩)

/-- A call of the document's disk. -/
theorem Pair.ref (h : Pair B w F G p S cs T) (ht : RThen G w w' cs' T') : Pair B w' F (fun k => (G k ∨ w.heap.size ≤ k) ∧ k < w'.heap.size) p S cs' T' := by
  refine ⟨fun k hk => ⟨(h.low k hk).1, Nat.lt_of_lt_of_le (h.low k hk).2 ht.2.size⟩, fun k hk => hk.2, fun k hk hg => ?_, h.dk.stays ht.2, ht.1.keep (fun k hg hl => ⟨rfl, hg, hl⟩)⟩
  rcases hg.1 with hg | hg
  · exact h.dis k hk hg
  · have := (h.low k hk).2
    omega

/-- Both disks stay where a block turns that is neither's. -/
theorem Pair.but {g : Nat} (h : Pair B w F G p S cs T) (hb : But g w w') (hF : ¬ F g) (hG : ¬ G g) : Pair B w' F G p S cs T :=
  ⟨fun k hk => ⟨(h.low k hk).1, Nat.lt_of_lt_of_le (h.low k hk).2 hb.size⟩, fun k hk => Nat.lt_of_lt_of_le (h.lowG k hk) hb.size, h.dis, h.dk.keep (fun k hk hl => hb.block k (fun e => hF (e ▸ hk)) hl), h.rf.keep (fun k hk hl => ⟨hb.block k (fun e => hG (e ▸ hk)) hl, hk⟩)⟩

end

/-- A block that is not the disk's stays. -/
theorem box_keep {X : Nat} {w w' : World} {F : Nat → Prop} {t : TypeId} {vs : List Value} (hf : Frm F w w') (hX : Blk t w X vs) (hn : ¬ F X) : Blk t w' X vs := by
  have hl := hX.lt
  unfold Blk at *
  rw [hf.block X hn hl]
  exact hX

end Go.Proofs.YteocmmmnfbabaaaDoor
