/-
  Package disk: a waiting write's first bytes are laid onto the disk.
-/
import Derived.Test.YthbldjnpnligpaaDoorG08
import Derived.Deep.RegionHeldLaw
import Derived.Stop.RegionWithIn
import Derived.BigRegionIn
import Derived.Sort.QuietIn
import Derived.BigRegion
namespace Go.Proofs.YthbldjnpnligpaaDoor
set_option linter.unusedSimpArgs false
set_option linter.unusedVariables false
set_option maxRecDepth 100000
open Go.RowKit

section
variable {p bl : Nat} {v : Value} {bufs : List Buf} {laid : List Int} {off fused : Bool} {left : Nat}

end
end Go.Proofs.YthbldjnpnligpaaDoor

/-
  Package disk: Flush.
-/

namespace Go.Proofs.YthbldjnpnligpaaDoor
set_option linter.unusedSimpArgs false
set_option linter.unusedVariables false
set_option maxRecDepth 100000
open Go.RowKit
attribute [local go_sem] Oper.semAt_some wide_fn wide_depth round_fn round_depth

/-- All is as it was but the blocks of F, and new blocks. -/
structure Frm (F : Nat → Prop) (w w' : World) : Prop where
  os : w'.os = w.os
  tape : w'.tape = w.tape
  output : w'.output = w.output
  size : w.heap.size ≤ w'.heap.size
  block : ∀ k, ¬ F k → k < w.heap.size → w'.heap[k]? = w.heap[k]?

theorem Frm.refl (F : Nat → Prop) (w : World) : Frm F w w := ⟨rfl, rfl, rfl, Nat.le_refl _, fun _ _ _ => rfl⟩
theorem Frm.trans {F : Nat → Prop} {a b c : World} (h : Frm F a b) (k : Frm F b c) : Frm F a c :=
  ⟨k.os.trans h.os, k.tape.trans h.tape, k.output.trans h.output, Nat.le_trans h.size k.size, fun i hi hl => (k.block i hi (Nat.lt_of_lt_of_le hl h.size)).trans (h.block i hi hl)⟩
theorem Frm.of_below {F : Nat → Prop} {a b : World} (h : Below a.heap.size a b) : Frm F a b := ⟨h.os, h.tape, h.output, h.size, fun k _ hl => h.block k hl⟩
theorem Frm.of_but {F : Nat → Prop} {g : Nat} {a b : World} (h : But g a b) (hg : F g) : Frm F a b := ⟨h.os, h.tape, h.output, h.size, fun k hk hl => h.block k (fun e => hk (e ▸ hg)) hl⟩
theorem Frm.mono {F G : Nat → Prop} {a b : World} (h : Frm F a b) (hg : ∀ k, F k → G k) : Frm G a b := ⟨h.os, h.tape, h.output, h.size, fun k hk hl => h.block k (fun e => hk (hg k e)) hl⟩
theorem Frm.drew {F : Nat → Prop} {a b : World} (h : Frm F a b) : Frm F a b.drew := ⟨h.os, h.tape, h.output, h.size, h.block⟩
theorem Frm.aside {F : Nat → Prop} {B : Nat} {a b c : World} (h : Frm F a b) (hA : Aside B b c) (hB : a.heap.size ≤ B) : Frm F a c :=
  ⟨hA.os.trans h.os, hA.tape.trans h.tape, hA.output.trans h.output, Nat.le_trans h.size hA.size, fun i hi hl => (hA.block i (Nat.lt_of_lt_of_le hl h.size) (.inl (by omega))).trans (h.block i hi hl)⟩
theorem Frm.below {F : Nat → Prop} {a b : World} (h : Frm F a b) {B : Nat} (hB : B ≤ a.heap.size) (hF : ∀ k, F k → B ≤ k) : Below B a b := ⟨h.os, h.tape, h.output, h.size, fun k hk => h.block k (fun e => by have := hF k e; omega) (by omega)⟩

/-- The disk's own two blocks that turn. -/
def Two (p bl : Nat) (k : Nat) : Prop := k = p ∨ k = bl

section
variable {p bl : Nat} {v : Value} {bufs : List Buf} {laid : List Int} {off fused : Bool} {left : Nat}

theorem DkAt.cells {w : World} (h : DkAt w p bl v bufs laid off fused left) : ∀ k, Foot p bl v bufs k → ∃ o : Obj, w.heap[k]? = some o ∧ o.isCells = true := by
  rintro k (rfl | rfl | e | ⟨f, hf, rfl⟩)
  · exact ⟨_, h.blk, rfl⟩
  · exact ⟨_, h.row, rfl⟩
  · obtain ⟨cs, hc⟩ := own_type h.own e
    exact ⟨_, hc, rfl⟩
  · obtain ⟨cs, hc⟩ := (h.buf f hf).1.blk
    exact ⟨_, hc, rfl⟩

theorem DkAt.aside {w w' : World} {B : Nat} (h : DkAt w p bl v bufs laid off fused left) (hA : Aside B w w') : DkAt w' p bl v bufs laid off fused left :=
  h.keep (fun k hk => hA.block k (h.foot_lt k hk) (.inr (h.cells k hk)))

theorem DkAt.nd {w : World} (h : DkAt w p bl v bufs laid off fused left) : Nd p v bufs w := ⟨h.fields.2.1, h.own⟩

theorem getD_mem {bufs : List Buf} {i : Nat} (h : i < bufs.length) : bufs.getD i noBuf ∈ bufs := by
  simp [List.getD, h]

end

end Go.Proofs.YthbldjnpnligpaaDoor

/-
  Package disk: Crash.
-/

namespace Go.Proofs.YthbldjnpnligpaaDoor
set_option linter.unusedSimpArgs false
set_option linter.unusedVariables false
set_option maxRecDepth 100000
open Go.RowKit
attribute [local go_sem] Oper.semAt_some wide_fn wide_depth round_fn round_depth

/-- Integers behind a slice. -/
def Is (w : World) (a : Option Addr) (ks : List Int) : Prop := ks = [] ∨ ∃ b off, a = some ⟨b, off, none⟩ ∧ ∀ i, i < ks.length → w.cell? ⟨b, off + i, none⟩ = some (.int .i64 (ks.getD i 0))

theorem Is.at {w : World} {a : Option Addr} {ks : List Int} (h : Is w a ks) {k : Nat} (hk : k < ks.length) : ∃ b off, a = some ⟨b, off, none⟩ ∧ w.cell? ⟨b, off + k, none⟩ = some (.int .i64 (ks.getD k 0)) := by
  rcases h with rfl | ⟨b, off, rfl, hc⟩
  · simp at hk
  · exact ⟨b, off, rfl, hc k hk⟩

theorem Is.stays {w w' : World} {a : Option Addr} {ks : List Int} (h : Is w a ks) (hb : Below w.heap.size w w') : Is w' a ks := by
  rcases h with h | ⟨b, off, rfl, hc⟩
  · exact .inl h
  · refine .inr ⟨b, off, rfl, fun i hi => ?_⟩
    rw [hb.cell (World.block_lt_of_cell? w _ (hc i hi))]
    exact hc i hi

section
variable {p bl : Nat} {v : Value} {bufs : List Buf} {laid : List Int} {off fused : Bool} {left : Nat}

end
end Go.Proofs.YthbldjnpnligpaaDoor
