/-
  errors.Is over a chain of faults: Go's own text, walked once; Has.
-/
import Derived.Test.YtpicicecmlpldaaDoorRoot
import Derived.Test.YtpicicecmlpldaaDoorUp
import Derived.Deep.RegionWith
import Derived.Deep.QuietTactic
namespace Go.Proofs.YtpicicecmlpldaaDoor
set_option linter.unusedSimpArgs false
set_option linter.unusedVariables false
open Go.RowKit Go.Extern.Stop Go.Stop Go.Extern

theorem rl_comparable (w : World) : (callFunc 61 #[.agg #[hnd 26]]).run Tryd.prog w = .ok (.value (.bool true)) w := by kernel_rfl
theorem mt_comparable (h : Value) (w : World) : (Go.method 217 74 (.agg #[h]) "Comparable").run Tryd.prog w = .ok (61, .agg #[h]) w := by kernel_rfl
theorem mt_is (v : Value) (w : World) : (Go.method 217 26 v "Is").run Tryd.prog w = .ok (54, v) w := by kernel_rfl
theorem mt_unwrap (v : Value) (w : World) : (Go.method 217 26 v "Unwrap").run Tryd.prog w = .ok (26, v) w := by kernel_rfl
theorem has_is (v : Value) (xT : TypeId) (w : World) : (Instr.typeAssert (.iface 26 v) xT 76 true).run Tryd.prog w = .ok (.tuple #[.iface 26 v, .bool true]) w := run_typeAssert_hasB Tryd.underlying76 (by kernel_rfl) v xT w
theorem has_unwrap (v : Value) (xT : TypeId) (w : World) : (Instr.typeAssert (.iface 26 v) xT 79 true).run Tryd.prog w = .ok (.tuple #[.iface 26 v, .bool true]) w := run_typeAssert_hasB Tryd.underlying79 (by kernel_rfl) v xT w
theorem is_flt (v : Value) (w : World) : (Instr.typeAssert (.iface 26 v) 48 26 true).run Tryd.prog w = .ok (.tuple #[v, .bool true]) w := by kernel_rfl
theorem flt_comp : (Tryd.prog.info? 26).map (·.comparable) = some true := by kernel_rfl
theorem flt_size : (Tryd.prog.info? 41).map (·.size) = some 3 := by kernel_rfl

set_option maxRecDepth 100000 in
theorem unwrap_copy (b k : Nat) (op op' : ByteArray) (c c' : Int) (q : Option Addr) (w : World) (h : Blk 41 w b [.string op, .int .i64 c, .pointer (some ⟨k, 0, none⟩)]) (hk : Blk 41 w k [.string op', .int .i64 c', .pointer q]) :
    Calls Tryd.prog 26 #[.pointer (some ⟨b, 0, none⟩)] w fun e w' => e = .returned (.iface 26 (.pointer (some ⟨w.heap.size, 0, none⟩))) ∧ Blk 41 w' w.heap.size [.string op', .int .i64 c', .pointer q] ∧ Below w.heap.size w w' := by
  obtain ⟨h0, h1, h2⟩ := fields w b op c _ h
  go_enter Tryd.func26, Tryd.ntmps26
  go_wp2_with (refine wpList_load_blk (by rfl) (.tmp 17) 41 (by rfl) k 0 3 (by rfl) (isAgg_struct Tryd.underlying41) (sizeOf_run (by kernel_rfl)) hk [.string op', .int .i64 c', .pointer q] (by rfl) (by rfl) ?_)
  go_ret
  exact ⟨rfl, Blk.newAt rfl rfl, (Below.refl _ _).alloc (Nat.le_refl _) _⟩


set_option maxRecDepth 100000 in
theorem is_run (b g : Nat) (q q' : Option Addr) (op op' : ByteArray) (c d : Int) (w : World) (h : Blk 41 w b [.string op, .int .i64 c, .pointer q]) (h' : Blk 41 w g [.string op', .int .i64 d, .pointer q']) :
    Calls Tryd.prog 54 #[.pointer (some ⟨b, 0, none⟩), .iface 26 (.pointer (some ⟨g, 0, none⟩))] w fun e w' => e = .returned (.bool (c == d)) ∧ Below w.heap.size w w' := by
  obtain ⟨h0, h1, h2⟩ := fields w b op c q h
  obtain ⟨i0, i1, i2⟩ := fields w g op' d q' h'
  have ha := is_flt
  go_enter Tryd.func54, Tryd.ntmps54
  go_wp2
  go_quiet (fail)
  go_wp2
  go_ret
  exact ⟨rfl, below_drewN (Below.refl _ _) nq⟩

set_option maxRecDepth 100000 in
theorem is_none (g : Nat) (w : World) :
    Calls Tryd.prog 54 #[.pointer none, .iface 26 (.pointer (some ⟨g, 0, none⟩))] w fun e w' => e = .returned (.bool false) ∧ Below w.heap.size w w' := by
  have ha := is_flt
  go_enter Tryd.func54, Tryd.ntmps54
  go_wp2
  refine Up.wp_region_up (Up.tell []) (by kernel_rfl) (by kernel_rfl) (Up.tell_steady _ (by
    intro p hp
    simp at hp)) ?_
  repeat (first
    | (apply Up.wpUp_pure
       case hw => rfl
       case hψ => rfl
       case hv => (intro w1 hp; clear hp; go_simp; try (with_reducible rfl))
       simp only [Act.put, List.setIfInBounds_toArray, List.set_cons_zero, List.set_cons_succ])
    | (refine Up.wpUp_pass (by rfl) ?_
       simp only [Act.put, List.setIfInBounds_toArray, List.set_cons_zero, List.set_cons_succ]))
  refine Up.wpUp_end ?_
  intro w6 hb6 _
  go_wp2
  go_ret
  exact ⟨rfl, hb6⟩

theorem eql_none (a : Addr) (w : World) : (binOp .eql 48 (.iface 26 (.pointer none)) (.iface 26 (.pointer (some a)))).run Tryd.prog w = .ok (.bool false) w := by kernel_rfl

def ptrIn : Value → Option Addr
  | .iface _ (.pointer p) => p
  | _ => none

set_option maxHeartbeats 1000000 in
set_option maxRecDepth 100000 in
theorem ises_none (g : Nat) (d : Int) (w : World) (hg : Blk 41 w g [.string .empty, .int .i64 d, .pointer none]) :
    Calls Tryd.prog 29 #[.iface 26 (.pointer none), .iface 26 (.pointer (some ⟨g, 0, none⟩)), .bool true] w fun e w' => e = .returned (.bool false) ∧ Below w.heap.size w w' := by
  have a1 := has_is
  have a2 := has_unwrap
  have m1 := mt_is
  have m2 := mt_unwrap
  have heq := eql_none
  go_enter Tryd.func29, Tryd.ntmps29
  go_wp2
  refine wp_loop_rounds 1 ?_
  rw [rounds_succ]
  go_wp2_with (first
    | (go_at_call 54; go_must (refine (is_none g w).mono ?_); rintro e w1 ⟨rfl, hb1⟩)
    | (go_at_call 26; go_must (refine (unwrap_nil _).mono ?_); rintro e w2 ⟨rfl, rfl⟩))
  go_ret
  exact ⟨rfl, hb1⟩

set_option maxHeartbeats 1000000 in
set_option maxRecDepth 100000 in
theorem ises_run (g : Nat) (c d : Int) (p : Option Addr) (op : ByteArray) (ops : List ByteArray) (w : World) (hg : Blk 41 w g [.string .empty, .int .i64 d, .pointer none]) (h : Ch w c p (op :: ops)) (hne : p ≠ some ⟨g, 0, none⟩) :
    Calls Tryd.prog 29 #[.iface 26 (.pointer p), .iface 26 (.pointer (some ⟨g, 0, none⟩)), .bool true] w fun e w' => e = .returned (.bool (c == d)) ∧ Below w.heap.size w w' := by
  have a1 := has_is
  have a2 := has_unwrap
  have m1 := mt_is
  have m2 := mt_unwrap
  have hgl := hg.lt
  obtain ⟨i, hi, hcmp⟩ := Option.map_eq_some_iff.1 flt_comp
  obtain ⟨j, hj, hjs⟩ := Option.map_eq_some_iff.1 flt_size
  have HI : Hid (Tryd.prog.info? 26 = some i ∧ i.comparable = true ∧ Tryd.prog.info? 41 = some j ∧ j.size ≠ 0) := ⟨hi, hcmp, hj, by rw [hjs]; decide⟩
  clear hi hcmp hj hjs
  go_enter Tryd.func29, Tryd.ntmps29
  go_wp2
  go_loopw [0] (fun v wr => ∃ (p' : Option Addr) (op' : ByteArray) (rest : List ByteArray), v = .iface 26 (.pointer p') ∧ Ch wr c p' (op' :: rest) ∧ Hid (p' ≠ some ⟨g, 0, none⟩) ∧ rest.length ≤ ops.length ∧ Below w.heap.size w wr) (fun v wr => chLen wr (ops.length + 1) (ptrIn v))
  case atStart => exact ⟨p, op, ops, rfl, h, hne, Nat.le_refl _, Below.refl _ _⟩
  case round =>
    clear h hne
    rename_i hrel
    obtain ⟨p', op', rest, rfl, hC, hne, hl, hbel⟩ := hrel
    have hgr := hg.stays hbel
    have hm := hC.len _ _ (ops.length + 1) (by simp; omega)
    obtain ⟨b, q, hp, hb, hq⟩ := id hC
    subst hp
    have heq := run_eql_iface_ptr_other (P := Tryd.prog) (a := ⟨b, 0, none⟩) (b := ⟨g, 0, none⟩) wr Tryd.underlying48 Tryd.underlying26 HI.out.1 HI.out.2.1 HI.out.2.2.1 HI.out.2.2.2 (fun hh => hne.out (by rw [hh])) hb hgr
    have hcall := is_run b g q none op' .empty c d wr hb hgr
    cases hcd : (c == d) with
    | true =>
      rw [hcd] at hcall
      go_wp2_with (go_at_call 54; go_must (refine hcall.mono ?_); rintro e w1 ⟨rfl, hb1⟩)
      go_ret
      exact ⟨by rw [hcd]; rfl, hbel.trans (hb1.mono hbel.size)⟩
    | false =>
      rw [hcd] at hcall
      cases rest with
      | nil =>
        obtain rfl : q = none := hq
        go_wp2_with (first
          | (go_at_call 54; go_must (refine hcall.mono ?_); rintro e w1 ⟨rfl, hb1⟩)
          | (go_at_call 26; go_must (refine (unwrap_none b op' c _ (hb.stays hb1)).mono ?_); rintro e w2 ⟨rfl, rfl⟩))
        go_ret
        exact ⟨by rw [hcd]; rfl, hbel.trans (hb1.mono hbel.size)⟩
      | cons op2 rest =>
        obtain ⟨k, q2, hqq, hk, hr⟩ := hq
        subst hqq
        go_wp2_with (go_at_call 54; go_must (refine hcall.mono ?_))
        rintro e w1 ⟨rfl, hb1⟩
        have hcall2 := unwrap_copy b k op' op2 c c q2 w1 (hb.stays hb1) (hk.stays hb1)
        have hr1 := hr.stays hb1
        have hs1 := hb1.size
        have hs2 := hbel.size
        go_wp2_with (go_at_call 26; go_must (refine hcall2.mono ?_))
        rintro e w2 ⟨rfl, hk2, hb2⟩
        have hC2 : Ch w2 c (some ⟨w1.heap.size, 0, none⟩) (op2 :: rest) := ⟨_, q2, rfl, hk2, hr1.stays hb2⟩
        have hm1 := hC2.len _ _ (ops.length + 1) (by simp at hl ⊢; omega)
        go_wp2
        go_roundw
        case rel => exact ⟨_, op2, rest, rfl, hC2, (fun hh => by injection hh with hh; injection hh with hh; omega), by simp at hl; omega, (hbel.trans (hb1.mono hs2)).trans (hb2.mono (by omega))⟩
        case measure => simp [ptrIn, hm, hm1]

theorem isW_step (w : World) (o : Obj) : Below w.heap.size w (w.alloc o) := (Below.refl _ _).alloc (Nat.le_refl _) _

set_option maxHeartbeats 1000000 in
set_option maxRecDepth 100000 in
theorem iss_run (g : Nat) (v : Value) (r : Bool) (w : World)
    (hc : Calls Tryd.prog 29 #[.iface 26 v, .iface 26 (.pointer (some ⟨g, 0, none⟩)), .bool true] w fun e w' => e = .returned (.bool r) ∧ Below w.heap.size w w') :
    Calls Tryd.prog 23 #[.iface 26 v, .iface 26 (.pointer (some ⟨g, 0, none⟩))] w fun e w' => e = .returned (.bool r) ∧ Below w.heap.size w w' := by
  have hE6 := @run_callFunc_extern Tryd.prog 28 _ ReflectliteType.typeOf Tryd.func28 (by kernel_rfl) (by kernel_rfl) (by kernel_rfl) (by kernel_rfl)
  have x1 := rl_typeOf
  have x2 := rl_comparable
  have x3 := mt_comparable
  go_enter Tryd.func23, Tryd.ntmps23
  go_wp2_with (go_at_call 29; go_must (refine hc.mono ?_); rintro e w1 ⟨rfl, hb1⟩)
  go_ret
  exact ⟨rfl, hb1⟩

theorem has_run (c d : Int) (p : Option Addr) (op : ByteArray) (ops : List ByteArray) (w : World) (h : Ch w c p (op :: ops)) :
    Calls Tryd.prog 15 #[.pointer p, .int .i64 d] w fun e w' => e = .returned (.bool (c == d)) ∧ Below w.heap.size w w' := by
  have hs := isW_step w (.cells #[.string .empty, .int .i64 d, .pointer none] 41)
  have hg : Blk 41 (w.alloc (.cells #[.string .empty, .int .i64 d, .pointer none] 41)) w.heap.size [.string .empty, .int .i64 d, .pointer none] := Blk.newAt rfl rfl
  have hne : p ≠ some ⟨w.heap.size, 0, none⟩ := by
    obtain ⟨b, q, rfl, hb, _⟩ := h
    have := hb.lt
    intro hh
    injection hh with hh
    injection hh with hh
    omega
  have hc := iss_run w.heap.size (.pointer p) (c == d) _ (ises_run w.heap.size c d p op ops _ hg (h.stays hs) hne)
  clear hne
  go_enter Tryd.func15, Tryd.ntmps15
  go_wp2_with (go_at_call 23; go_must (refine hc.mono ?_); rintro e w1 ⟨rfl, hb1⟩)
  go_ret
  exact ⟨rfl, hs.trans (hb1.mono hs.size)⟩

theorem has_none (d : Int) (w : World) :
    Calls Tryd.prog 15 #[.pointer none, .int .i64 d] w fun e w' => e = .returned (.bool false) ∧ Below w.heap.size w w' := by
  have hs := isW_step w (.cells #[.string .empty, .int .i64 d, .pointer none] 41)
  have hg : Blk 41 (w.alloc (.cells #[.string .empty, .int .i64 d, .pointer none] 41)) w.heap.size [.string .empty, .int .i64 d, .pointer none] := Blk.newAt rfl rfl
  have hc := iss_run w.heap.size (.pointer none) false _ (ises_none w.heap.size d _ hg)
  go_enter Tryd.func15, Tryd.ntmps15
  go_wp2_with (go_at_call 23; go_must (refine hc.mono ?_); rintro e w1 ⟨rfl, hb1⟩)
  go_ret
  exact ⟨rfl, hs.trans (hb1.mono hs.size)⟩
end Go.Proofs.YtpicicecmlpldaaDoor
