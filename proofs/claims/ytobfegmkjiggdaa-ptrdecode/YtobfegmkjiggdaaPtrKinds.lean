/-
  The walks over ptr.May, ptr.IsHole, ptr.IsAbsent, and the document's.
-/
import Derived.Test.YtobfegmkjiggdaaPtrEq
namespace Go.Proofs.Ytobfegmkjiggdaa
set_option linter.unusedSimpArgs false
set_option linter.unusedVariables false
open Go.RowKit

theorem arr33 {p : Pt} (h : p.ok) {PV : Array Value} (hv : PV = p.vs.toArray) : PV[32]? = some (.int .u32 p.b) ∧ PV[33]? = some (.int .u32 p.x) ∧ PV[34]? = some (.int .u32 p.y) := by
  subst hv
  simp [Pt.vs_birth h, Pt.vs_x h, Pt.vs_y h]

/-- The hole's cells. -/
theorem zero_vs : Pt.zero.vs.toArray = #[.int .u8 0, .int .u8 0, .int .u8 0, .int .u8 0, .int .u8 0, .int .u8 0, .int .u8 0, .int .u8 0, .int .u8 0, .int .u8 0, .int .u8 0, .int .u8 0, .int .u8 0, .int .u8 0, .int .u8 0, .int .u8 0, .int .u8 0, .int .u8 0, .int .u8 0, .int .u8 0, .int .u8 0, .int .u8 0, .int .u8 0, .int .u8 0, .int .u8 0, .int .u8 0, .int .u8 0, .int .u8 0, .int .u8 0, .int .u8 0, .int .u8 0, .int .u8 0, .int .u32 0, .int .u32 0, .int .u32 0] := rfl

set_option maxRecDepth 100000 in
theorem may_run (p : Pt) (hp : p.ok) (w : World) : Calls Try.prog 11 #[.agg p.vs.toArray] w fun e w' => e = .returned (.bool p.may) ∧ Below w.heap.size w w' := by
  obtain ⟨PV, hv⟩ : ∃ PV, PV = p.vs.toArray := ⟨_, rfl⟩
  obtain ⟨h32, h33, h34⟩ := arr33 hp hv
  have hb := (Below.refl w.heap.size w).alloc (Nat.le_refl _) (.cells PV 26)
  have hx := hp.x
  have hy := hp.y
  obtain ⟨x, hxx⟩ : ∃ x, x = p.x := ⟨_, rfl⟩
  obtain ⟨y, hyy⟩ : ∃ y, y = p.y := ⟨_, rfl⟩
  have hm : p.may = if x = 0 then y == 0 else !(y == x) := by rw [hxx, hyy]; rfl
  rw [← hv, hm]
  rw [← hxx] at h33 hx
  rw [← hyy] at h34 hy
  clear hxx hyy hv hm hp
  by_cases h0 : x = 0
  · subst h0
    rw [if_pos rfl]
    go_enter Try.func11, Try.ntmps11
    go_wp2
    go_ret
    refine ⟨?_, hb⟩
    rw [← natbeq]; rfl
  · rw [if_neg h0]
    go_enter Try.func11, Try.ntmps11
    go_wp2
    go_ret
    refine ⟨?_, hb⟩
    rw [← natbeq]; rfl

set_option maxRecDepth 100000 in
theorem isHole_run (p : Pt) (hp : p.ok) (w : World) : Calls Try.prog 13 #[.agg p.vs.toArray] w fun e w' => e = .returned (.bool p.hole) ∧ Below w.heap.size w w' := by
  obtain ⟨PV, hv⟩ : ∃ PV, PV = p.vs.toArray := ⟨_, rfl⟩
  have hb := (Below.refl w.heap.size w).alloc (Nat.le_refl _) (.cells PV 26)
  have hB : Blk 26 (w.alloc (.cells PV 26)) w.heap.size p.vs := Blk.newAt rfl hv
  have heq : ∀ u, (Op.equalIn 10000 26 (.agg PV) (.agg #[.int .u8 0, .int .u8 0, .int .u8 0, .int .u8 0, .int .u8 0, .int .u8 0, .int .u8 0, .int .u8 0, .int .u8 0, .int .u8 0, .int .u8 0, .int .u8 0, .int .u8 0, .int .u8 0, .int .u8 0, .int .u8 0, .int .u8 0, .int .u8 0, .int .u8 0, .int .u8 0, .int .u8 0, .int .u8 0, .int .u8 0, .int .u8 0, .int .u8 0, .int .u8 0, .int .u8 0, .int .u8 0, .int .u8 0, .int .u8 0, .int .u8 0, .int .u8 0, .int .u32 0, .int .u32 0, .int .u32 0])).run Try.prog u = .ok p.hole u := fun u => by
    rw [hv, ← zero_vs]; exact equal_ptr hp Pt.zero_ok 9997 u
  have hlen := Pt.vs_len hp
  have HV : Hid (PV = p.vs.toArray) := hv
  rw [← hv]
  clear hv
  go_enter Try.func13, Try.ntmps13
  go_wp2_with (refine wpList_load_blk (by rfl) (.tmp 1) 26 (by rfl) w.heap.size 0 35 (by rfl) agg_ptr size_ptr hB p.vs (by rw [List.drop_zero, List.take_of_length_le (by omega)]) hlen ?_; rw [← HV.out])
  go_ret
  exact ⟨rfl, hb⟩

set_option maxRecDepth 100000 in
theorem isAbsent_run (p : Pt) (hp : p.ok) (w : World) : Calls Try.prog 15 #[.agg p.vs.toArray] w fun e w' => e = .returned (.bool p.absent) ∧ Below w.heap.size w w' := by
  obtain ⟨PV, hv⟩ : ∃ PV, PV = p.vs.toArray := ⟨_, rfl⟩
  have hb := (Below.refl w.heap.size w).alloc (Nat.le_refl _) (.cells PV 26)
  have hB : Blk 26 (w.alloc (.cells PV 26)) w.heap.size p.vs := Blk.newAt rfl hv
  have hlen := Pt.vs_len hp
  have HV : Hid (PV = p.vs.toArray) := hv
  have hx := hp.x
  have hm := may_run p hp
  have hh := isHole_run p hp
  have hcx := Pt.vs_x hp
  rw [← hv] at hm hh ⊢
  unfold Pt.absent
  obtain ⟨x, hxx⟩ : ∃ x, x = p.x := ⟨_, rfl⟩
  rw [← hxx] at hcx hx ⊢
  clear hv hxx hp
  have HL : Hid (p.vs = (p.vs.drop 0).take 35) := by show _ = _; rw [List.drop_zero, List.take_of_length_le (by omega)]
  cases hmv : p.may
  · rw [hmv] at hm
    go_enter Try.func15, Try.ntmps15
    go_wp2_with (first
      | (refine wpList_load_blk (by rfl) (.tmp 1) 26 (by rfl) w.heap.size 0 35 (by rfl) agg_ptr size_ptr hB p.vs HL.out hlen ?_; rw [← HV.out])
      | (go_at_call 11; go_must (refine (hm _).mono ?_); rintro e w1 ⟨rfl, hb1⟩))
    go_ret
    exact ⟨rfl, below_then hb hb1⟩
  · rw [hmv] at hm
    cases hhv : p.hole
    · rw [hhv] at hh
      go_enter Try.func15, Try.ntmps15
      go_wp2_with (first
        | (refine wpList_load_blk (by rfl) (.tmp 1) 26 (by rfl) w.heap.size 0 35 (by rfl) agg_ptr size_ptr hB p.vs HL.out hlen ?_; rw [← HV.out])
        | (go_at_call 11; go_must (refine (hm _).mono ?_); rintro e w1 ⟨rfl, hb1⟩; have hB1 := hB.stays hb1; clear hB)
        | (refine wpList_load_blk_guard (by rfl) (.tmp 1) 26 (by rfl) w.heap.size 0 35 (by rfl) agg_ptr size_ptr hB1 p.vs HL.out hlen ?_; rw [← HV.out])
        | (go_at_call 13; go_must (refine (hh _).mono ?_); rintro e w2 ⟨rfl, hb2⟩; have hB2 := hB1.stays hb2; have hc2 := (hB2.cell 33).trans hcx))
      go_ret
      refine ⟨?_, below_then (below_then hb hb1) hb2⟩
      rw [← natbeq]; rfl
    · rw [hhv] at hh
      go_enter Try.func15, Try.ntmps15
      go_wp2_with (first
        | (refine wpList_load_blk (by rfl) (.tmp 1) 26 (by rfl) w.heap.size 0 35 (by rfl) agg_ptr size_ptr hB p.vs HL.out hlen ?_; rw [← HV.out])
        | (go_at_call 11; go_must (refine (hm _).mono ?_); rintro e w1 ⟨rfl, hb1⟩; have hB1 := hB.stays hb1; clear hB)
        | (refine wpList_load_blk_guard (by rfl) (.tmp 1) 26 (by rfl) w.heap.size 0 35 (by rfl) agg_ptr size_ptr hB1 p.vs HL.out hlen ?_; rw [← HV.out])
        | (go_at_call 13; go_must (refine (hh _).mono ?_); rintro e w2 ⟨rfl, hb2⟩))
      go_ret
      exact ⟨rfl, below_then (below_then hb hb1) hb2⟩

set_option maxRecDepth 100000 in
theorem rmay_run (p : Pt) (hp : p.ok) (w : World) : Calls Try.prog 12 #[.agg p.vs.toArray] w fun e w' => e = .returned (.bool p.may) ∧ Below w.heap.size w w' := by
  obtain ⟨PV, hv⟩ : ∃ PV, PV = p.vs.toArray := ⟨_, rfl⟩
  obtain ⟨h32, h33, h34⟩ := arr33 hp hv
  have hb := (Below.refl w.heap.size w).alloc (Nat.le_refl _) (.cells PV 26)
  have hx := hp.x
  have hy := hp.y
  obtain ⟨x, hxx⟩ : ∃ x, x = p.x := ⟨_, rfl⟩
  obtain ⟨y, hyy⟩ : ∃ y, y = p.y := ⟨_, rfl⟩
  have hm : p.may = if x = 0 then y == 0 else !(y == x) := by rw [hxx, hyy]; rfl
  rw [← hv, hm]
  rw [← hxx] at h33 hx
  rw [← hyy] at h34 hy
  clear hxx hyy hv hm hp
  by_cases h0 : x = 0
  · subst h0
    rw [if_pos rfl]
    go_enter Try.func12, Try.ntmps12
    go_wp2
    go_ret
    refine ⟨?_, hb⟩
    rw [← natbeq]; rfl
  · rw [if_neg h0]
    go_enter Try.func12, Try.ntmps12
    go_wp2
    go_ret
    refine ⟨?_, hb⟩
    rw [← natbeq]; rfl

set_option maxRecDepth 100000 in
theorem risHole_run (p : Pt) (hp : p.ok) (w : World) : Calls Try.prog 14 #[.agg p.vs.toArray] w fun e w' => e = .returned (.bool p.hole) ∧ Below w.heap.size w w' := by
  obtain ⟨PV, hv⟩ : ∃ PV, PV = p.vs.toArray := ⟨_, rfl⟩
  have hb := (Below.refl w.heap.size w).alloc (Nat.le_refl _) (.cells PV 26)
  have hB : Blk 26 (w.alloc (.cells PV 26)) w.heap.size p.vs := Blk.newAt rfl hv
  have heq : ∀ u, (Op.equalIn 10000 26 (.agg PV) (.agg #[.int .u8 0, .int .u8 0, .int .u8 0, .int .u8 0, .int .u8 0, .int .u8 0, .int .u8 0, .int .u8 0, .int .u8 0, .int .u8 0, .int .u8 0, .int .u8 0, .int .u8 0, .int .u8 0, .int .u8 0, .int .u8 0, .int .u8 0, .int .u8 0, .int .u8 0, .int .u8 0, .int .u8 0, .int .u8 0, .int .u8 0, .int .u8 0, .int .u8 0, .int .u8 0, .int .u8 0, .int .u8 0, .int .u8 0, .int .u8 0, .int .u8 0, .int .u8 0, .int .u32 0, .int .u32 0, .int .u32 0])).run Try.prog u = .ok p.hole u := fun u => by
    rw [hv, ← zero_vs]; exact equal_ptr hp Pt.zero_ok 9997 u
  have hlen := Pt.vs_len hp
  have HV : Hid (PV = p.vs.toArray) := hv
  rw [← hv]
  clear hv
  go_enter Try.func14, Try.ntmps14
  go_wp2_with (refine wpList_load_blk (by rfl) (.tmp 1) 26 (by rfl) w.heap.size 0 35 (by rfl) agg_ptr size_ptr hB p.vs (by rw [List.drop_zero, List.take_of_length_le (by omega)]) hlen ?_; rw [← HV.out])
  go_ret
  exact ⟨rfl, hb⟩

set_option maxRecDepth 100000 in
theorem risAbsent_run (p : Pt) (hp : p.ok) (w : World) : Calls Try.prog 16 #[.agg p.vs.toArray] w fun e w' => e = .returned (.bool p.absent) ∧ Below w.heap.size w w' := by
  obtain ⟨PV, hv⟩ : ∃ PV, PV = p.vs.toArray := ⟨_, rfl⟩
  have hb := (Below.refl w.heap.size w).alloc (Nat.le_refl _) (.cells PV 26)
  have hB : Blk 26 (w.alloc (.cells PV 26)) w.heap.size p.vs := Blk.newAt rfl hv
  have hlen := Pt.vs_len hp
  have HV : Hid (PV = p.vs.toArray) := hv
  have hx := hp.x
  have hm := rmay_run p hp
  have hh := risHole_run p hp
  have hcx := Pt.vs_x hp
  rw [← hv] at hm hh ⊢
  unfold Pt.absent
  obtain ⟨x, hxx⟩ : ∃ x, x = p.x := ⟨_, rfl⟩
  rw [← hxx] at hcx hx ⊢
  clear hv hxx hp
  have HL : Hid (p.vs = (p.vs.drop 0).take 35) := by show _ = _; rw [List.drop_zero, List.take_of_length_le (by omega)]
  cases hmv : p.may
  · rw [hmv] at hm
    go_enter Try.func16, Try.ntmps16
    go_wp2_with (first
      | (refine wpList_load_blk (by rfl) (.tmp 1) 26 (by rfl) w.heap.size 0 35 (by rfl) agg_ptr size_ptr hB p.vs HL.out hlen ?_; rw [← HV.out])
      | (go_at_call 12; go_must (refine (hm _).mono ?_); rintro e w1 ⟨rfl, hb1⟩))
    go_ret
    exact ⟨rfl, below_then hb hb1⟩
  · rw [hmv] at hm
    cases hhv : p.hole
    · rw [hhv] at hh
      go_enter Try.func16, Try.ntmps16
      go_wp2_with (first
        | (refine wpList_load_blk (by rfl) (.tmp 1) 26 (by rfl) w.heap.size 0 35 (by rfl) agg_ptr size_ptr hB p.vs HL.out hlen ?_; rw [← HV.out])
        | (go_at_call 12; go_must (refine (hm _).mono ?_); rintro e w1 ⟨rfl, hb1⟩; have hB1 := hB.stays hb1; clear hB)
        | (refine wpList_load_blk_guard (by rfl) (.tmp 1) 26 (by rfl) w.heap.size 0 35 (by rfl) agg_ptr size_ptr hB1 p.vs HL.out hlen ?_; rw [← HV.out])
        | (go_at_call 14; go_must (refine (hh _).mono ?_); rintro e w2 ⟨rfl, hb2⟩; have hB2 := hB1.stays hb2; have hc2 := (hB2.cell 33).trans hcx))
      go_ret
      refine ⟨?_, below_then (below_then hb hb1) hb2⟩
      rw [← natbeq]; rfl
    · rw [hhv] at hh
      go_enter Try.func16, Try.ntmps16
      go_wp2_with (first
        | (refine wpList_load_blk (by rfl) (.tmp 1) 26 (by rfl) w.heap.size 0 35 (by rfl) agg_ptr size_ptr hB p.vs HL.out hlen ?_; rw [← HV.out])
        | (go_at_call 12; go_must (refine (hm _).mono ?_); rintro e w1 ⟨rfl, hb1⟩; have hB1 := hB.stays hb1; clear hB)
        | (refine wpList_load_blk_guard (by rfl) (.tmp 1) 26 (by rfl) w.heap.size 0 35 (by rfl) agg_ptr size_ptr hB1 p.vs HL.out hlen ?_; rw [← HV.out])
        | (go_at_call 14; go_must (refine (hh _).mono ?_); rintro e w2 ⟨rfl, hb2⟩))
      go_ret
      exact ⟨rfl, below_then (below_then hb hb1) hb2⟩
end Go.Proofs.Ytobfegmkjiggdaa
