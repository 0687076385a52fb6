/-
  Regions with calls that hand back bytes: what is told of them.
-/
import Derived.Test.YtiofpkkbejnjcaaAlive
import Derived.Test.YtiofpkkbejnjcaaUp
namespace Go.Proofs.Ytiofpkkbejnjcaa
set_option linter.unusedSimpArgs false
set_option linter.unusedVariables false
open Go.RowKit

/-- The value is a slice of these bytes. -/
def slB (xs : List Int) : Value → World → Prop := fun v w => ∃ a c, v = .slice a xs.length c ∧ Bs w a c xs
theorem slB_steady (xs : List Int) : Up.Steady (slB xs) := fun v w w' hb ⟨a, c, h1, h2⟩ => ⟨a, c, h1, h2.stays hb⟩
/-- The value is this one. -/
def isV (x : Value) : Value → World → Prop := fun v _ => v = x
theorem isV_steady (x : Value) : Up.Steady (isV x) := fun v w w' hb h => h

/-- A contract that hands back bytes, as a region asks it. -/
theorem calls_slB {f : FuncId} {args : Array Value} {w : World} {ys : List Int} (h : Calls Try.prog f args w fun e w' => ∃ a' c', e = .returned (.slice a' ys.length c') ∧ Bs w' a' c' ys ∧ Below w.heap.size w w') :
    Calls Try.prog f args w fun e w' => ∃ v, e = .returned v ∧ Below w.heap.size w w' ∧ slB ys v w' :=
  h.mono fun e w' ⟨a', c', h1, h2, h3⟩ => ⟨_, h1, h3, a', c', rfl, h2⟩

theorem alive_up (w : World) : Calls Try.prog 8 #[] w fun e w' => ∃ v, e = .returned v ∧ Below w.heap.size w w' ∧ isV (.bool true) v w' :=
  (alive_any w).mono fun e w' ⟨h1, h2⟩ => ⟨_, h1, h2, rfl⟩

/-- What a call handed back, asked for where another operation comes up. -/
theorem conv_of {xs : List Int} {a : Option Addr} {n c : Nat} {w : World} (h : slB xs (.slice a n c) w) : (convert 22 9 (.slice a n c)).run Try.prog w = .ok (.string (strOfNums xs)) w := by
  obtain ⟨a', c', h1, h2⟩ := h
  cases h1
  exact conv9 h2 _ rfl
end Go.Proofs.Ytiofpkkbejnjcaa
