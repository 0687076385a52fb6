/-
  The walks over ptr.May, ptr.IsHole, ptr.IsAbsent, and the document's.
-/
import Derived.Test.YteocmmmnfbabaaaDoorPtrEq
namespace Go.Proofs.YteocmmmnfbabaaaDoor
set_option linter.unusedSimpArgs false
set_option linter.unusedVariables false
open Go.RowKit

theorem arr33 {p : Pt} (h : p.ok) {PV : Array Value} (hv : PV = p.vs.toArray) : PV[32]? = some (.int .u32 p.b) ∧ PV[33]? = some (.int .u32 p.x) ∧ PV[34]? = some (.int .u32 p.y) := by
  subst hv
  simp [Pt.vs_birth h, Pt.vs_x h, Pt.vs_y h]

/-- The hole's cells. -/
theorem zero_vs : Pt.zero.vs.toArray = #[.int .u8 0, .int .u8 0, .int .u8 0, .int .u8 0, .int .u8 0, .int .u8 0, .int .u8 0, .int .u8 0, .int .u8 0, .int .u8 0, .int .u8 0, .int .u8 0, .int .u8 0, .int .u8 0, .int .u8 0, .int .u8 0, .int .u8 0, .int .u8 0, .int .u8 0, .int .u8 0, .int .u8 0, .int .u8 0, .int .u8 0, .int .u8 0, .int .u8 0, .int .u8 0, .int .u8 0, .int .u8 0, .int .u8 0, .int .u8 0, .int .u8 0, .int .u8 0, .int .u32 0, .int .u32 0, .int .u32 0] := rfl

set_option maxRecDepth 100000 in
theorem may_run (p : Pt) (hp : p.ok) (w : World) : Calls Tryd.prog 33 #[.agg p.vs.toArray] w fun e w' => e = .returned (.bool p.may) ∧ Below w.heap.size w w' := by
  obtain ⟨PV, hv⟩ : ∃ PV, PV = p.vs.toArray := ⟨_, rfl⟩
  obtain ⟨h32, h33, h34⟩ := arr33 hp hv
  have hb := (Below.refl w.heap.size w).alloc (Nat.le_refl _) (.cells PV 26)
  have hx := hp.x
  have hy := hp.y
  obtain ⟨x, hxx⟩ : ∃ x, x = p.x := ⟨_, rfl⟩
  obtain ⟨y, hyy⟩ : ∃ y, y = p.y := ⟨_, rfl⟩
  have hm : p.may = if x = 0 then y == 0 else !(y == x) := by rw [hxx, hyy]; rfl
  rw [← hv, hm]
  rw [← hxx] at h33 hx
  rw [← hyy] at h34 hy
  clear hxx hyy hv hm hp
  by_cases h0 : x = 0
  · subst h0
    rw [if_pos rfl]
    go_enter Tryd.func33, Tryd.ntmps33
    go_wp2
    go_ret
    refine ⟨?_, hb⟩
    rw [← natbeq]; rfl
  · rw [if_neg h0]
    go_enter Tryd.func33, Tryd.ntmps33
    go_wp2
    go_ret
    refine ⟨?_, hb⟩
    rw [← natbeq]; rfl

set_option maxRecDepth 100000 in
theorem rmay_run (p : Pt) (hp : p.ok) (w : World) : Calls Tryd.prog 37 #[.agg p.vs.toArray] w fun e w' => e = .returned (.bool p.may) ∧ Below w.heap.size w w' := by
  obtain ⟨PV, hv⟩ : ∃ PV, PV = p.vs.toArray := ⟨_, rfl⟩
  obtain ⟨h32, h33, h34⟩ := arr33 hp hv
  have hb := (Below.refl w.heap.size w).alloc (Nat.le_refl _) (.cells PV 26)
  have hx := hp.x
  have hy := hp.y
  obtain ⟨x, hxx⟩ : ∃ x, x = p.x := ⟨_, rfl⟩
  obtain ⟨y, hyy⟩ : ∃ y, y = p.y := ⟨_, rfl⟩
  have hm : p.may = if x = 0 then y == 0 else !(y == x) := by rw [hxx, hyy]; rfl
  rw [← hv, hm]
  rw [← hxx] at h33 hx
  rw [← hyy] at h34 hy
  clear hxx hyy hv hm hp
  by_cases h0 : x = 0
  · subst h0
    rw [if_pos rfl]
    go_enter Tryd.func37, Tryd.ntmps37
    go_wp2
    go_ret
    refine ⟨?_, hb⟩
    rw [← natbeq]; rfl
  · rw [if_neg h0]
    go_enter Tryd.func37, Tryd.ntmps37
    go_wp2
    go_ret
    refine ⟨?_, hb⟩
    rw [← natbeq]; rfl

end Go.Proofs.YteocmmmnfbabaaaDoor
