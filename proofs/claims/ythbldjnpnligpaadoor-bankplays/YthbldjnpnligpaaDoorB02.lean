/-
 NParts of bytes, laid one behind the other; no function here.
-/
import Derived.Test.YthbldjnpnligpaaDoorProg
import Derived.Test.YthbldjnpnligpaaDoorB01
import Derived.Deep.QuietTactic
import Derived.BigQuiet
import Derived.Laws.BitsLemmas
namespace Go.Proofs.YthbldjnpnligpaaDoor
set_option linter.unusedSimpArgs false
set_option linter.unusedVariables false
set_option maxRecDepth 100000
open Go.RowKit
structure NPart where
 a : Option Addr
 c : Nat
 xs : List Int
def NPart.val (p : NPart) : Value := .slice p.a p.xs.length p.c
structure Ps (w : World) (a : Option Addr) (ps : List NPart) : Prop where
 bs : ∀ p ∈ ps, Bs w p.a p.c p.xs
 lay : ps = [] ∨ ∃ b off, a = some ⟨b, off, none⟩ ∧ ∀ i (hi : i < ps.length), w.cell? ⟨b, off + i, none⟩ = some ps[i].val
theorem Ps.empty (w : World) : Ps w none [] := ⟨by simp, .inl rfl⟩
theorem Ps.stays {w w' : World} {a : Option Addr} {ps : List NPart} (h : Ps w a ps) (hb : Below w.heap.size w w') : Ps w' a ps := by
 refine ⟨fun p hp => (h.bs p hp).stays hb, ?_⟩
 rcases h.lay with h | ⟨b, off, rfl, hc⟩
 · exact .inl h
 · refine .inr ⟨b, off, rfl, fun i hi => ?_⟩
   rw [hb.cell (World.block_lt_of_cell? w _ (hc i hi))]
   exact hc i hi
theorem below_then {w w1 w2 : World} (h1 : Below w.heap.size w w1) (h2 : Below w1.heap.size w1 w2) : Below w.heap.size w w2 := h1.trans (h2.mono h1.size)
theorem Ps.one {w : World} {a : Option Addr} {c : Nat} {xs : List Int} (h : Bs w a c xs) (t : TypeId) : Ps (w.alloc (.cells #[.slice a xs.length c] t)) (some ⟨w.heap.size, 0, none⟩) [⟨a, c, xs⟩] := by
 refine ⟨fun p hp => ?_, .inr ⟨_, _, rfl, fun i hi => ?_⟩⟩
 · rw [List.mem_singleton.1 hp]; exact h.stays ((Below.refl _ _).alloc (Nat.le_refl _) _)
 · have : i = 0 := by simpa using hi
   subst this
   simp [NPart.val]
theorem Ps.two {w : World} {a a2 : Option Addr} {c c2 : Nat} {xs ys : List Int} (h : Bs w a c xs) (h2 : Bs w a2 c2 ys) (t : TypeId) :
 Ps (w.alloc (.cells #[.slice a xs.length c, .slice a2 ys.length c2] t)) (some ⟨w.heap.size, 0, none⟩) [⟨a, c, xs⟩, ⟨a2, c2, ys⟩] := by
 refine ⟨fun p hp => ?_, .inr ⟨_, _, rfl, fun i hi => ?_⟩⟩
 · have hb := (Below.refl w.heap.size w).alloc (Nat.le_refl _) (.cells #[.slice a xs.length c, .slice a2 ys.length c2] t)
   simp only [List.mem_cons, List.not_mem_nil, or_false] at hp
   rcases hp with rfl | rfl
   · exact h.stays hb
   · exact h2.stays hb
 · have : i = 0 ∨ i = 1 := by simp at hi; omega
   rcases this with rfl | rfl <;> simp [NPart.val]
end Go.Proofs.YthbldjnpnligpaaDoor

/-
 The walks over num.behind and num.fresh.
-/

namespace Go.Proofs.YthbldjnpnligpaaDoor
set_option linter.unusedSimpArgs false
set_option linter.unusedVariables false
set_option maxRecDepth 100000
open Go.RowKit
end Go.Proofs.YthbldjnpnligpaaDoor

/-
 Whole numbers: the walks over num.Put32 and num.Take32.
-/

namespace Go.Proofs.YthbldjnpnligpaaDoor
set_option linter.unusedSimpArgs false
set_option linter.unusedVariables false
set_option maxRecDepth 100000
open Go.RowKit
def b32 (n : Nat) : List Int := [(n : Int) % 256, (n : Int) / 256 % 256, (n : Int) / 65536 % 256, (n : Int) / 16777216]
def take32L (xs : List Int) : Int × List Int × Nat :=
 if xs.length < 4 then (0, [], 2) else (xs.getD 0 0 + xs.getD 1 0 * 256 + xs.getD 2 0 * 65536 + xs.getD 3 0 * 16777216, xs.drop 4, 0)
end Go.Proofs.YthbldjnpnligpaaDoor
