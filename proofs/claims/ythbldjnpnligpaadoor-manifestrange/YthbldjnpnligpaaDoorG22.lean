/-
  What calls within a region that draws are told to hand back.
-/
import Derived.Test.YthbldjnpnligpaaDoorG21
import Derived.Test.YthbldjnpnligpaaDoorG01
import Derived.Test.YthbldjnpnligpaaDoorG10
import Derived.Laws.Closers25b
namespace Go.Proofs.YthbldjnpnligpaaDoor
set_option linter.unusedSimpArgs false
set_option linter.unusedVariables false
set_option maxRecDepth 100000
open Go.RowKit

/-- The value is this one. -/
def isV (x : Value) : Value → World → Prop := fun v _ => v = x
theorem isV_steady (x : Value) : Up.Steady (isV x) := fun v w w' hb h => h
/-- The value is a slice of these bytes. -/
def slB (n : Nat) (xs : List Int) : Value → World → Prop := fun v w => ∃ a c, v = .slice a n c ∧ Bs w a c xs
theorem slB_steady (n : Nat) (xs : List Int) : Up.Steady (slB n xs) := fun v w w' hb ⟨a, c, h1, h2⟩ => ⟨a, c, h1, h2.stays hb⟩

theorem calls_isV {P : Program} {f : FuncId} {args : Array Value} {w : World} {x : Value} (h : Calls P f args w fun e w' => e = .returned x ∧ Below w.heap.size w w') :
    Calls P f args w fun e w' => ∃ v, e = .returned v ∧ Below w.heap.size w w' ∧ isV x v w' := h.mono fun e w' ⟨h1, h2⟩ => ⟨_, h1, h2, rfl⟩
theorem calls_slB {P : Program} {f : FuncId} {args : Array Value} {w : World} {n : Nat} {xs : List Int} (h : Calls P f args w fun e w' => ∃ a c, e = .returned (.slice a n c) ∧ Bs w' a c xs ∧ Below w.heap.size w w') :
    Calls P f args w fun e w' => ∃ v, e = .returned v ∧ Below w.heap.size w w' ∧ slB n xs v w' := h.mono fun e w' ⟨a, c, h1, h2, h3⟩ => ⟨_, h1, h3, a, c, rfl, h2⟩
end Go.Proofs.YthbldjnpnligpaaDoor

/-
  Package disk: Rot, Fuse, Dump, New; no disk.
-/

namespace Go.Proofs.YthbldjnpnligpaaDoor
set_option linter.unusedSimpArgs false
set_option linter.unusedVariables false
set_option maxRecDepth 100000
open Go.RowKit

section
variable {p bl : Nat} {v : Value} {bufs : List Buf} {laid : List Int} {off fused : Bool} {left : Nat}

theorem dnew_run (n : Nat) (w : World) (hn1 : 16 ≤ n) (hn2 : n ≤ 512) :
    Calls Tryd.prog 45 #[.int .i64 (n : Int)] w fun e w' => ∃ p, e = .returned (.tuple #[.pointer (some ⟨p, 0, none⟩), .int .i64 0]) ∧ ∃ bl, DkAt w' p bl (.slice none 0 0) [] (List.replicate (256 * n) 0) false false 0 ∧ w.heap.size ≤ p ∧ w.heap.size ≤ bl ∧ Below w.heap.size w w' := by
  have hi : (Tryd.prog.info? 5).map (fun i => (i.zero, i.size, i.bytes)) = some (some (.int .u8 0), 1, 1) := by kernel_rfl
  obtain ⟨i0, hi0, hz0, hz1, hz2⟩ := info_parts hi
  have h1 : ¬ ((n : Int) < 16) := by omega
  have h2 : ¬ ((512 : Int) < (n : Int)) := by omega
  go_enter Tryd.func45, Tryd.ntmps45
  go_wp2_with (refine wpList_make_bytes (w0 := w) (by rfl) (.tmp 11) (.tmp 11) 43 (by rfl) w.heap.size 5 i0 Tryd.underlying43 hi0 hz0 hz1 hz2 .i64 .i64 ((n : Int) * 256) ((n : Int) * 256) (256 * n) (by rfl) (by rfl) (by omega) (by omega) (by omega) (Nat.le_refl _) (Below.refl _ _) ?_; intro w1 hrow hb1)
  refine bodyPost_ret (results_tmp2 rfl _ _ _) rfl ?_
  refine ⟨w1.heap.size, rfl, w.heap.size, ?_, hb1.size, Nat.le_refl _, hb1.alloc hb1.size _⟩
  have hl : (List.replicate (256 * n) (0 : Int)).length = 256 * n := List.length_replicate
  refine ⟨by rw [hl]; exact Blk.newAt rfl rfl, ?_, World.ownsRow_nil _ _ _ _, fun f hf => by simp at hf, ?_, ⟨n, hl, hn1, hn2⟩, by omega⟩
  · have h3 := hrow.lt
    unfold Row at *
    rw [Below.heap_alloc _ _ _ h3]
    exact hrow
  · intro x hx
    obtain ⟨_, rfl⟩ := List.mem_replicate.1 hx
    omega

/-- Exclusive or of two bytes. -/
def xorB (x y : Int) : Int := bits BinOp.xor IntKind.u8 x y

/-- The sector's bytes when the first k bytes of a mask are turned. -/
def xorTo (laid : List Int) (s : Nat) (ms : List Int) (k : Nat) : List Int := (List.range k).foldl (fun l j => l.set (256 * s + j) (xorB (l.getD (256 * s + j) 0) (ms.getD j 0))) laid

theorem xorTo_succ (laid : List Int) (s : Nat) (ms : List Int) (k : Nat) : xorTo laid s ms (k + 1) = (xorTo laid s ms k).set (256 * s + k) (xorB ((xorTo laid s ms k).getD (256 * s + k) 0) (ms.getD k 0)) := by
  simp [xorTo, List.range_succ]

theorem xorTo_length (laid : List Int) (s : Nat) (ms : List Int) (k : Nat) : (xorTo laid s ms k).length = laid.length := by
  induction k with
  | zero => rfl
  | succ k ih => rw [xorTo_succ, List.length_set, ih]

theorem xorTo_rng {laid : List Int} {s : Nat} {ms : List Int} (h : ∀ x ∈ laid, 0 ≤ x ∧ x ≤ 255) (k : Nat) : ∀ x ∈ xorTo laid s ms k, 0 ≤ x ∧ x ≤ 255 := by
  induction k with
  | zero => exact h
  | succ k ih =>
    intro x hx
    rw [xorTo_succ] at hx
    rcases List.mem_or_eq_of_mem_set hx with hx | rfl
    · exact ih x hx
    · exact bits_within .xor .u8 _ _

end

section
attribute [local go_sem] Oper.semAt_some wide_fn wide_depth round_fn round_depth

end

end Go.Proofs.YthbldjnpnligpaaDoor

/-
  Package disk: what is read of no writes and of one.
-/

namespace Go.Proofs.YthbldjnpnligpaaDoor
set_option linter.unusedSimpArgs false
set_option linter.unusedVariables false
set_option maxRecDepth 100000
open Go.RowKit

end Go.Proofs.YthbldjnpnligpaaDoor
