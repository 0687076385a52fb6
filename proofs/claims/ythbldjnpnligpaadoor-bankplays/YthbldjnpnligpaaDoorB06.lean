/-
 Short names for what every walk's simp takes.
-/
import Derived.Test.YthbldjnpnligpaaDoorB04
import Derived.WalkKit
namespace Go.Proofs.YthbldjnpnligpaaDoor
theorem sTA {α : Type _} (l : List α) (i : Nat) (x : α) : l.toArray.setIfInBounds i x = (l.set i x).toArray := by simp
theorem sT0 {α : Type _} (x : α) (l : List α) (y : α) : (x :: l).set 0 y = y :: l := rfl
theorem sT1 {α : Type _} (x : α) (l : List α) (i : Nat) (y : α) : (x :: l).set (i + 1) y = x :: l.set i y := rfl
end Go.Proofs.YthbldjnpnligpaaDoor

/-
 The walks over ptr.May, ptr.IsHole, ptr.IsAbsent, and the document's.
-/

namespace Go.Proofs.YthbldjnpnligpaaDoor
set_option linter.unusedSimpArgs false
set_option linter.unusedVariables false
set_option maxRecDepth 100000
open Go.RowKit
theorem arr33 {p : Pt} (h : p.ok) {PV : Array Value} (hv : PV = p.vs.toArray) : PV[32]? = some (.int .u32 p.b) ∧ PV[33]? = some (.int .u32 p.x) ∧ PV[34]? = some (.int .u32 p.y) := by
 subst hv
 simp [Pt.vs_birth h, Pt.vs_x h, Pt.vs_y h]
theorem zero_vs : Pt.zero.vs.toArray = #[.int .u8 0, .int .u8 0, .int .u8 0, .int .u8 0, .int .u8 0, .int .u8 0, .int .u8 0, .int .u8 0, .int .u8 0, .int .u8 0, .int .u8 0, .int .u8 0, .int .u8 0, .int .u8 0, .int .u8 0, .int .u8 0, .int .u8 0, .int .u8 0, .int .u8 0, .int .u8 0, .int .u8 0, .int .u8 0, .int .u8 0, .int .u8 0, .int .u8 0, .int .u8 0, .int .u8 0, .int .u8 0, .int .u8 0, .int .u8 0, .int .u8 0, .int .u8 0, .int .u32 0, .int .u32 0, .int .u32 0] := rfl
set_option maxRecDepth 100000 in
theorem may_run (p : Pt) (hp : p.ok) (w : World) : Calls Tryd.prog 147 #[.agg p.vs.toArray] w fun e w' => e = .returned (.bool p.may) ∧ Below w.heap.size w w' := by
 obtain ⟨PV, hv⟩ : ∃ PV, PV = p.vs.toArray := ⟨_, rfl⟩
 obtain ⟨h32, h33, h34⟩ := arr33 hp hv
 have hb := (Below.refl w.heap.size w).alloc (Nat.le_refl _) (.cells PV 42)
 have hx := hp.x
 have hy := hp.y
 obtain ⟨x, hxx⟩ : ∃ x, x = p.x := ⟨_, rfl⟩
 obtain ⟨y, hyy⟩ : ∃ y, y = p.y := ⟨_, rfl⟩
 have hm : p.may = if x = 0 then y == 0 else !(y == x) := by rw [hxx, hyy]; rfl
 rw [← hv, hm]
 rw [← hxx] at h33 hx
 rw [← hyy] at h34 hy
 clear hxx hyy hv hm hp
 by_cases h0 : x = 0
 · subst h0
   rw [if_pos rfl]
   go_enter Tryd.func147, Tryd.ntmps147
   go_wp2
   go_ret
   refine ⟨?_, hb⟩
   rw [← natbeq]; rfl
 · rw [if_neg h0]
   go_enter Tryd.func147, Tryd.ntmps147
   go_wp2
   go_ret
   refine ⟨?_, hb⟩
   rw [← natbeq]; rfl
set_option maxRecDepth 100000 in
theorem isHole_run (p : Pt) (hp : p.ok) (w : World) : Calls Tryd.prog 87 #[.agg p.vs.toArray] w fun e w' => e = .returned (.bool p.hole) ∧ Below w.heap.size w w' := by
 obtain ⟨PV, hv⟩ : ∃ PV, PV = p.vs.toArray := ⟨_, rfl⟩
 have hb := (Below.refl w.heap.size w).alloc (Nat.le_refl _) (.cells PV 42)
 have hB : Blk 42 (w.alloc (.cells PV 42)) w.heap.size p.vs := Blk.newAt rfl hv
 have heq : ∀ u, (Op.equalIn 10000 42 (.agg PV) (.agg #[.int .u8 0, .int .u8 0, .int .u8 0, .int .u8 0, .int .u8 0, .int .u8 0, .int .u8 0, .int .u8 0, .int .u8 0, .int .u8 0, .int .u8 0, .int .u8 0, .int .u8 0, .int .u8 0, .int .u8 0, .int .u8 0, .int .u8 0, .int .u8 0, .int .u8 0, .int .u8 0, .int .u8 0, .int .u8 0, .int .u8 0, .int .u8 0, .int .u8 0, .int .u8 0, .int .u8 0, .int .u8 0, .int .u8 0, .int .u8 0, .int .u8 0, .int .u8 0, .int .u32 0, .int .u32 0, .int .u32 0])).run Tryd.prog u = .ok p.hole u := fun u => by
  rw [hv, ← zero_vs]; exact equal_ptr hp Pt.zero_ok 9997 u
 have hlen := Pt.vs_len hp
 have HV : Hid (PV = p.vs.toArray) := hv
 rw [← hv]
 clear hv
 go_enter Tryd.func87, Tryd.ntmps87
 go_wp2_with (refine wpList_load_blk (by rfl) (.tmp 1) 42 (by rfl) w.heap.size 0 35 (by rfl) agg_ptr size_ptr hB p.vs (by rw [List.drop_zero, List.take_of_length_le (by omega)]) hlen ?_; rw [← HV.out])
 go_ret
 exact ⟨rfl, hb⟩
set_option maxRecDepth 100000 in
theorem rmay_run (p : Pt) (hp : p.ok) (w : World) : Calls Tryd.prog 112 #[.agg p.vs.toArray] w fun e w' => e = .returned (.bool p.may) ∧ Below w.heap.size w w' := by
 obtain ⟨PV, hv⟩ : ∃ PV, PV = p.vs.toArray := ⟨_, rfl⟩
 obtain ⟨h32, h33, h34⟩ := arr33 hp hv
 have hb := (Below.refl w.heap.size w).alloc (Nat.le_refl _) (.cells PV 42)
 have hx := hp.x
 have hy := hp.y
 obtain ⟨x, hxx⟩ : ∃ x, x = p.x := ⟨_, rfl⟩
 obtain ⟨y, hyy⟩ : ∃ y, y = p.y := ⟨_, rfl⟩
 have hm : p.may = if x = 0 then y == 0 else !(y == x) := by rw [hxx, hyy]; rfl
 rw [← hv, hm]
 rw [← hxx] at h33 hx
 rw [← hyy] at h34 hy
 clear hxx hyy hv hm hp
 by_cases h0 : x = 0
 · subst h0
   rw [if_pos rfl]
   go_enter Tryd.func112, Tryd.ntmps112
   go_wp2
   go_ret
   refine ⟨?_, hb⟩
   rw [← natbeq]; rfl
 · rw [if_neg h0]
   go_enter Tryd.func112, Tryd.ntmps112
   go_wp2
   go_ret
   refine ⟨?_, hb⟩
   rw [← natbeq]; rfl
set_option maxRecDepth 100000 in
theorem risHole_run (p : Pt) (hp : p.ok) (w : World) : Calls Tryd.prog 113 #[.agg p.vs.toArray] w fun e w' => e = .returned (.bool p.hole) ∧ Below w.heap.size w w' := by
 obtain ⟨PV, hv⟩ : ∃ PV, PV = p.vs.toArray := ⟨_, rfl⟩
 have hb := (Below.refl w.heap.size w).alloc (Nat.le_refl _) (.cells PV 42)
 have hB : Blk 42 (w.alloc (.cells PV 42)) w.heap.size p.vs := Blk.newAt rfl hv
 have heq : ∀ u, (Op.equalIn 10000 42 (.agg PV) (.agg #[.int .u8 0, .int .u8 0, .int .u8 0, .int .u8 0, .int .u8 0, .int .u8 0, .int .u8 0, .int .u8 0, .int .u8 0, .int .u8 0, .int .u8 0, .int .u8 0, .int .u8 0, .int .u8 0, .int .u8 0, .int .u8 0, .int .u8 0, .int .u8 0, .int .u8 0, .int .u8 0, .int .u8 0, .int .u8 0, .int .u8 0, .int .u8 0, .int .u8 0, .int .u8 0, .int .u8 0, .int .u8 0, .int .u8 0, .int .u8 0, .int .u8 0, .int .u8 0, .int .u32 0, .int .u32 0, .int .u32 0])).run Tryd.prog u = .ok p.hole u := fun u => by
  rw [hv, ← zero_vs]; exact equal_ptr hp Pt.zero_ok 9997 u
 have hlen := Pt.vs_len hp
 have HV : Hid (PV = p.vs.toArray) := hv
 rw [← hv]
 clear hv
 go_enter Tryd.func113, Tryd.ntmps113
 go_wp2_with (refine wpList_load_blk (by rfl) (.tmp 1) 42 (by rfl) w.heap.size 0 35 (by rfl) agg_ptr size_ptr hB p.vs (by rw [List.drop_zero, List.take_of_length_le (by omega)]) hlen ?_; rw [← HV.out])
 go_ret
 exact ⟨rfl, hb⟩
end Go.Proofs.YthbldjnpnligpaaDoor

/-
 The walk over ptr.Encode.
-/

namespace Go.Proofs.YthbldjnpnligpaaDoor
set_option linter.unusedSimpArgs false
set_option linter.unusedVariables false
set_option maxRecDepth 100000
open Go.RowKit
def Pt.num (p : Pt) (k : Nat) : Nat := if k = 0 then p.b else if k = 1 then p.x else p.y
def Pt.part (p : Pt) (n : Nat) : List Int := p.enc.take n ++ List.replicate (44 - n) 0
end Go.Proofs.YthbldjnpnligpaaDoor
