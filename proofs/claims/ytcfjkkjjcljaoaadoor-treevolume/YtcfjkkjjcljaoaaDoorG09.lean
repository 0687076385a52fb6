/-
  Package disk: a waiting write's first bytes are laid onto the disk.
-/
import Derived.Test.YtcfjkkjjcljaoaaDoorG08
import Derived.Deep.RegionHeldLaw
import Derived.Stop.RegionWithIn
import Derived.BigRegionIn
import Derived.Sort.QuietIn
import Derived.BigRegion
namespace Go.Proofs.YtcfjkkjjcljaoaaDoor
set_option linter.unusedSimpArgs false
set_option linter.unusedVariables false
set_option maxRecDepth 100000
open Go.RowKit

def clamp (n : Int) : Nat := (min (max n 0) 256).toNat
theorem clamp_le (n : Int) : clamp n ≤ 256 := by unfold clamp; omega

/-- Bytes over a sector's beginning. -/
def layAt (laid : List Int) (i : Nat) (ys : List Int) : List Int := laid.take (256 * i) ++ (ys ++ laid.drop (256 * i + ys.length))

theorem layAt_length {laid : List Int} {i : Nat} {ys : List Int} (h : 256 * i + ys.length ≤ laid.length) : (layAt laid i ys).length = laid.length := by
  unfold layAt; simp; omega

theorem layAt_rng {laid : List Int} {i : Nat} {ys : List Int} (h : ∀ x ∈ laid, 0 ≤ x ∧ x ≤ 255) (hy : ∀ x ∈ ys, 0 ≤ x ∧ x ≤ 255) : ∀ x ∈ layAt laid i ys, 0 ≤ x ∧ x ≤ 255 := by
  intro x hx
  unfold layAt at hx
  simp only [List.mem_append] at hx
  rcases hx with hx | hx | hx
  · exact h x (List.mem_of_mem_take hx)
  · exact hy x hx
  · exact h x (List.mem_of_mem_drop hx)

/-- A disk whose sectors' bytes are others. -/
theorem DkAt.relaid {w w' : World} {p bl : Nat} {v : Value} {bufs : List Buf} {laid laid' : List Int} {off fused : Bool} {left : Nat} (h : DkAt w p bl v bufs laid off fused left) (hl : laid'.length = laid.length) (hr : ∀ x ∈ laid', 0 ≤ x ∧ x ≤ 255) (hb : But bl w w')
    (hk : Row 5 w' bl laid') : DkAt w' p bl v bufs laid' off fused left := by
  have hpb := h.p_ne_bl
  refine ⟨?_, hk, owns_keep h.own (fun k e => ?_), fun f hf => ⟨(h.buf f hf).1.keep ?_, (h.buf f hf).2.1, by rw [hl]; exact (h.buf f hf).2.2⟩, hr, by rw [hl]; exact h.siz, h.lft⟩
  · have h1 := h.blk
    rw [hl]
    unfold Blk at *
    rw [hb.keeps hpb h1]; exact h1
  · obtain ⟨cs, hc⟩ := own_type h.own e
    exact hb.keeps (h.bl_ne_v e) hc
  · obtain ⟨cs, hc⟩ := (h.buf f hf).1.blk
    exact hb.keeps (h.buf f hf).2.1 hc

/-- copy into a block, as a step of a region that draws. -/
theorem step_copy_but {P : Program} {ops : Array Oper} {o : Oper} {a : Act} {w : World} {K : Act → World → Prop} {Q : Exit → Act → World → Prop} {E : Prop} (hgd : o.guard = none) (d s : Operand) (dT sT : TypeId)
    (ho : o.op = .call { callee := .builtin .copy, args := #[d, s], argTypes := #[dT, sT] }) (elem : TypeId) (hu : P.underlying dT = some (.slice elem)) (hsz : (P.info? elem).map (·.size) = some 1)
    (dLen dCap sLen sCap g off : Nat) (ad : Addr) (hd : a.eval d = .slice (some ⟨g, off, none⟩) dLen dCap) (hs : a.eval s = .slice (some ad) sLen sCap)
    (cur : List Value) (t : TypeId) (hg : w.heap[g]? = some (.cells cur.toArray t (0, 0))) (cs : List Value) (hn : cs.length = Nat.min sLen dLen)
    (hsrc : ∀ j v, cs[j]? = some v → w.cell? (ad.add j) = some v)
    (hfit : off + cs.length ≤ cur.length) (h1 : ∀ v ∈ cs, v.oneCell' = true)
    (h : ∀ w', Hid (w'.heap[g]? = some (.cells (splice cur off cs).toArray t (0, 0))) → But g w w' → K (a.put o.dst (goInt cs.length)) w') :
    if Region.wanted o (yielded ops a.tmps) = true then Oper.wp P o a w K Q else E := by
  have hw : Region.wanted o (yielded ops a.tmps) = true := by simp [Region.wanted, hgd]
  rw [if_pos hw]
  have hrun := run_copy_row (P := P) w dT sT o.type elem g off dLen dCap ad sLen sCap cur.toArray t cs hu hsz hg hn hsrc (by simpa using hfit) h1
  unfold Oper.wp
  simp [execOp, ho, resolve, invoke, builtin, hd, hs, hrun, Result.andThen]
  exact h _ (show _ = _ by simpa [splice] using setRow_heap w g _ _ t _ hg) ((But.refl g w).setRow _)

section
variable {p bl : Nat} {v : Value} {bufs : List Buf} {laid : List Int} {off fused : Bool} {left : Nat}

set_option maxHeartbeats 4000000 in
theorem lay_run (f : Buf) (n : Int) (w : World) (hD : DkAt w p bl v bufs laid off fused left) (hf : BufAt w f) (hne : f.blk ≠ bl) (hat : 256 * f.at' + 256 ≤ laid.length) :
    Calls Tryd.prog 73 #[.pointer (some ⟨p, 0, none⟩), .agg #[.int .i64 (f.at' : Int), f.slice], .int .i64 n] w fun e w' =>
      (∃ v, e = .returned v) ∧ DkAt w' p bl v bufs (layAt laid f.at' (f.xs.take (clamp n))) off fused left ∧ But bl w w' := by
  unfold Buf.slice
  have hlen := hf.len
  rw [hlen]
  go_enter Tryd.func73, Tryd.ntmps73
  go_wp2
  obtain ⟨W, hW⟩ : ∃ W, W = w.alloc (Obj.cells #[Value.int IntKind.i64 (f.at' : Int), Value.slice (some ⟨f.blk, 0, none⟩) 256 f.cap] 149) := ⟨_, rfl⟩
  have hbW : Below w.heap.size w W := by rw [hW]; exact (Below.refl _ _).alloc (Nat.le_refl _) _
  have hc0 : W.cell? ⟨w.heap.size, 0, none⟩ = some (.int .i64 (f.at' : Int)) := by rw [hW]; simp
  have hc1 : W.cell? ⟨w.heap.size, 1, none⟩ = some (.slice (some ⟨f.blk, 0, none⟩) 256 f.cap) := by rw [hW]; simp
  have hDW := hD.stays hbW
  have hHb : w.heap.size ≠ bl := by have := hD.row.lt; omega
  obtain ⟨H, hH⟩ : ∃ H, H = w.heap.size := ⟨_, rfl⟩
  rw [← hW]
  rw [← hH] at hc0 hc1 hHb ⊢
  clear hW hH
  have hHlt : H < W.drew.heap.size := World.block_lt_of_cell? W _ hc0
  have hrow : W.drew.heap[bl]? = some (.cells (laid.map (Value.int .u8)).toArray 5 (0, 0)) := hDW.row
  have hBW : Bs W.drew (some ⟨f.blk, 0, none⟩) f.cap f.xs := hf.bs.stays hbW.drew
  have hT : ∀ m, m ≤ 256 → Bs W.drew (some ⟨f.blk, 0, none⟩) f.cap (f.xs.take m) := fun m hm => (hBW.upto (P := Tryd.prog) 43 5 Tryd.underlying43 (by kernel_rfl) (by kernel_rfl) m (by omega)).2
  have hsrc : ∀ m, m ≤ 256 → ∀ j u, ((f.xs.take m).map (Value.int .u8))[j]? = some u → W.drew.cell? ((⟨f.blk, 0, none⟩ : Addr).add j) = some u := fun m hm => by
    rcases (hT m hm).lay with h0 | ⟨b, o, ha, hc⟩
    · rw [h0]; simp
    · simp at ha
      obtain ⟨rfl, rfl⟩ := ha
      exact Bs.srcCells hc
  have hlm : ∀ m, m ≤ 256 → ((f.xs.take m).map (Value.int .u8)).length = Nat.min m 256 := fun m hm => by simp [hlen]
  have hfit : ∀ m, m ≤ 256 → 256 * f.at' + ((f.xs.take m).map (Value.int .u8)).length ≤ (laid.map (Value.int .u8)).length := fun m hm => by simp; omega
  have hend : ∀ m, m ≤ 256 → clamp n = m → ∀ w4, Hid (w4.heap[bl]? = some (.cells (splice (laid.map (Value.int .u8)) (256 * f.at') ((f.xs.take m).map (Value.int .u8))).toArray 5 (0, 0))) → But bl W.drew w4 →
      DkAt w4 p bl v bufs (layAt laid f.at' (f.xs.take (clamp n))) off fused left ∧ But bl w w4 := fun m hm hc w4 h4 hb4 => by
    have hl : (f.xs.take m).length ≤ 256 := by simp; omega
    refine ⟨hDW.drew.relaid (layAt_length (by rw [hc]; omega)) (layAt_rng hD.rng (fun x hx => hf.bs.rng x (List.mem_of_mem_take hx))) hb4 ?_, (But.of_below (hbW.drew)).trans hb4⟩
    have := h4.out
    unfold Row
    rw [this, hc]
    simp [splice, layAt, List.map_take, List.map_drop]
  rcases (by omega : n < 0 ∨ (0 ≤ n ∧ n ≤ 256) ∨ 256 < n) with hn | ⟨hn1, hn2⟩ | hn
  · have hcl : clamp n = 0 := by unfold clamp; omega
    go_region_held_law (fun w' => w'.cell? ⟨H, 0, none⟩ = some (.int .i64 (f.at' : Int)) ∧ w'.cell? ⟨H, 1, none⟩ = some (.slice (some ⟨f.blk, 0, none⟩) 256 f.cap)) (first | go_keep | exact ⟨(World.cell?_of_block (hb4.block _ hHb hHlt)).trans hc0, (World.cell?_of_block (hb4.block _ hHb hHlt)).trans hc1⟩)
      (first
        | (go_at_call 71; refine (sector_run f.at' _ hDW.drew hat).mono ?_; rintro e w' ⟨rfl, rfl⟩)
        | (refine step_copy_but rfl (.tmp 9) (.tmp 15) 43 43 rfl 5 Tryd.underlying43 (by kernel_rfl) 256 (laid.length - 256 * f.at') 0 f.cap bl (256 * f.at') ⟨f.blk, 0, none⟩ rfl rfl (laid.map (Value.int .u8)) 5 hrow ((f.xs.take 0).map (Value.int .u8)) (hlm _ (by omega)) (hsrc _ (by omega)) (hfit _ (by omega)) (int_oneCell _ _) ?_; intro w4 h4 hb4))
    all_goals (go_end0; exact ⟨⟨_, rfl⟩, hend _ (by omega) hcl _ h4 hb4⟩)
  · obtain ⟨m, rfl⟩ : ∃ m : Nat, n = (m : Int) := ⟨n.toNat, by omega⟩
    have hm : m ≤ 256 := by omega
    have hcap : (m : Int) ≤ (f.cap : Int) := by have := hf.bs.cap; omega
    have hcl : clamp (m : Int) = m := by unfold clamp; omega
    go_region_held_law (fun w' => w'.cell? ⟨H, 0, none⟩ = some (.int .i64 (f.at' : Int)) ∧ w'.cell? ⟨H, 1, none⟩ = some (.slice (some ⟨f.blk, 0, none⟩) 256 f.cap)) (first | go_keep | exact ⟨(World.cell?_of_block (hb4.block _ hHb hHlt)).trans hc0, (World.cell?_of_block (hb4.block _ hHb hHlt)).trans hc1⟩)
      (first
        | (go_at_call 71; refine (sector_run f.at' _ hDW.drew hat).mono ?_; rintro e w' ⟨rfl, rfl⟩)
        | (refine step_copy_but rfl (.tmp 9) (.tmp 15) 43 43 rfl 5 Tryd.underlying43 (by kernel_rfl) 256 (laid.length - 256 * f.at') m f.cap bl (256 * f.at') ⟨f.blk, 0, none⟩ rfl rfl (laid.map (Value.int .u8)) 5 hrow ((f.xs.take m).map (Value.int .u8)) (hlm _ hm) (hsrc _ hm) (hfit _ hm) (int_oneCell _ _) ?_; intro w4 h4 hb4))
    all_goals (go_end0; exact ⟨⟨_, rfl⟩, hend _ hm hcl _ h4 hb4⟩)
  · have hcl : clamp n = 256 := by unfold clamp; omega
    have hcap : (256 : Int) ≤ (f.cap : Int) := by have := hf.bs.cap; omega
    go_region_held_law (fun w' => w'.cell? ⟨H, 0, none⟩ = some (.int .i64 (f.at' : Int)) ∧ w'.cell? ⟨H, 1, none⟩ = some (.slice (some ⟨f.blk, 0, none⟩) 256 f.cap)) (first | go_keep | exact ⟨(World.cell?_of_block (hb4.block _ hHb hHlt)).trans hc0, (World.cell?_of_block (hb4.block _ hHb hHlt)).trans hc1⟩)
      (first
        | (go_at_call 71; refine (sector_run f.at' _ hDW.drew hat).mono ?_; rintro e w' ⟨rfl, rfl⟩)
        | (refine step_copy_but rfl (.tmp 9) (.tmp 15) 43 43 rfl 5 Tryd.underlying43 (by kernel_rfl) 256 (laid.length - 256 * f.at') 256 f.cap bl (256 * f.at') ⟨f.blk, 0, none⟩ rfl rfl (laid.map (Value.int .u8)) 5 hrow ((f.xs.take 256).map (Value.int .u8)) (hlm _ (by omega)) (hsrc _ (by omega)) (hfit _ (by omega)) (int_oneCell _ _) ?_; intro w4 h4 hb4))
    all_goals (go_end0; exact ⟨⟨_, rfl⟩, hend _ (by omega) hcl _ h4 hb4⟩)

end
end Go.Proofs.YtcfjkkjjcljaoaaDoor

/-
  Package disk: Flush.
-/

namespace Go.Proofs.YtcfjkkjjcljaoaaDoor
set_option linter.unusedSimpArgs false
set_option linter.unusedVariables false
set_option maxRecDepth 100000
open Go.RowKit
attribute [local go_sem] Oper.semAt_some wide_fn wide_depth round_fn round_depth

/-- All is as it was but the blocks of F, and new blocks. -/
structure Frm (F : Nat → Prop) (w w' : World) : Prop where
  os : w'.os = w.os
  tape : w'.tape = w.tape
  output : w'.output = w.output
  size : w.heap.size ≤ w'.heap.size
  block : ∀ k, ¬ F k → k < w.heap.size → w'.heap[k]? = w.heap[k]?

theorem Frm.refl (F : Nat → Prop) (w : World) : Frm F w w := ⟨rfl, rfl, rfl, Nat.le_refl _, fun _ _ _ => rfl⟩
theorem Frm.trans {F : Nat → Prop} {a b c : World} (h : Frm F a b) (k : Frm F b c) : Frm F a c :=
  ⟨k.os.trans h.os, k.tape.trans h.tape, k.output.trans h.output, Nat.le_trans h.size k.size, fun i hi hl => (k.block i hi (Nat.lt_of_lt_of_le hl h.size)).trans (h.block i hi hl)⟩
theorem Frm.of_below {F : Nat → Prop} {a b : World} (h : Below a.heap.size a b) : Frm F a b := ⟨h.os, h.tape, h.output, h.size, fun k _ hl => h.block k hl⟩
theorem Frm.of_but {F : Nat → Prop} {g : Nat} {a b : World} (h : But g a b) (hg : F g) : Frm F a b := ⟨h.os, h.tape, h.output, h.size, fun k hk hl => h.block k (fun e => hk (e ▸ hg)) hl⟩
theorem Frm.mono {F G : Nat → Prop} {a b : World} (h : Frm F a b) (hg : ∀ k, F k → G k) : Frm G a b := ⟨h.os, h.tape, h.output, h.size, fun k hk hl => h.block k (fun e => hk (hg k e)) hl⟩
theorem Frm.drew {F : Nat → Prop} {a b : World} (h : Frm F a b) : Frm F a b.drew := ⟨h.os, h.tape, h.output, h.size, h.block⟩
theorem Frm.aside {F : Nat → Prop} {B : Nat} {a b c : World} (h : Frm F a b) (hA : Aside B b c) (hB : a.heap.size ≤ B) : Frm F a c :=
  ⟨hA.os.trans h.os, hA.tape.trans h.tape, hA.output.trans h.output, Nat.le_trans h.size hA.size, fun i hi hl => (hA.block i (Nat.lt_of_lt_of_le hl h.size) (.inl (by omega))).trans (h.block i hi hl)⟩
theorem Frm.below {F : Nat → Prop} {a b : World} (h : Frm F a b) {B : Nat} (hB : B ≤ a.heap.size) (hF : ∀ k, F k → B ≤ k) : Below B a b := ⟨h.os, h.tape, h.output, h.size, fun k hk => h.block k (fun e => by have := hF k e; omega) (by omega)⟩

/-- The disk's own two blocks that turn. -/
def Two (p bl : Nat) (k : Nat) : Prop := k = p ∨ k = bl

section
variable {p bl : Nat} {v : Value} {bufs : List Buf} {laid : List Int} {off fused : Bool} {left : Nat}

theorem DkAt.cells {w : World} (h : DkAt w p bl v bufs laid off fused left) : ∀ k, Foot p bl v bufs k → ∃ o : Obj, w.heap[k]? = some o ∧ o.isCells = true := by
  rintro k (rfl | rfl | e | ⟨f, hf, rfl⟩)
  · exact ⟨_, h.blk, rfl⟩
  · exact ⟨_, h.row, rfl⟩
  · obtain ⟨cs, hc⟩ := own_type h.own e
    exact ⟨_, hc, rfl⟩
  · obtain ⟨cs, hc⟩ := (h.buf f hf).1.blk
    exact ⟨_, hc, rfl⟩

theorem DkAt.aside {w w' : World} {B : Nat} (h : DkAt w p bl v bufs laid off fused left) (hA : Aside B w w') : DkAt w' p bl v bufs laid off fused left :=
  h.keep (fun k hk => hA.block k (h.foot_lt k hk) (.inr (h.cells k hk)))

theorem DkAt.nd {w : World} (h : DkAt w p bl v bufs laid off fused left) : Nd p v bufs w := ⟨h.fields.2.1, h.own⟩

theorem keeps_but {B g : Nat} {w w' : World} (h : But g w w') (hg : g < B) : KeepsFrom B w w' := ⟨h.size, fun k o hB hk _ => (h.block k (by omega) (Array.getElem?_eq_some_iff.1 hk).1).trans hk⟩

/-- The sectors' bytes when the first i writes are laid, each so far as keep says. -/
def laidTo (laid : List Int) (bufs : List Buf) (keep : Nat → Int) (i : Nat) : List Int := (List.range i).foldl (fun l k => layAt l (bufs.getD k noBuf).at' ((bufs.getD k noBuf).xs.take (clamp (keep k)))) laid

theorem laidTo_succ (laid : List Int) (bufs : List Buf) (keep : Nat → Int) (i : Nat) : laidTo laid bufs keep (i + 1) = layAt (laidTo laid bufs keep i) (bufs.getD i noBuf).at' ((bufs.getD i noBuf).xs.take (clamp (keep i))) := by
  simp [laidTo, List.range_succ]

theorem getD_mem {bufs : List Buf} {i : Nat} (h : i < bufs.length) : bufs.getD i noBuf ∈ bufs := by
  simp [List.getD, h]

set_option maxRecDepth 100000 in
set_option maxHeartbeats 4000000 in
theorem flush_off (w : World) (hD : DkAt w p bl v bufs laid true fused left) :
    Calls Tryd.prog 39 #[.pointer (some ⟨p, 0, none⟩)] w fun e w' => e = .returned (.int .i64 8) ∧ Below w.heap.size w w' := by
  refine (callsIn_wide (n := 0)).1 (callsIn_of_wp_marks Tryd.func39 rfl trivial ?_ rfl)
  simp only [Tryd.ntmps39, List.size_toArray, List.length_cons, List.length_nil, Nat.reduceAdd, Nat.reduceSub, Array.replicate_succ, Array.replicate_zero, List.push_toArray, List.append_toArray, List.nil_append, List.cons_append]
  have hD1 := hD.stays ((Below.refl _ _).alloc (Nat.le_refl _) (.cells #[.pointer (some ⟨p, 0, none⟩)] 24))
  gi_wp2_with (first
    | (gi_at_call 74; refine (callsIn_wide.2 (down_run _ hD1)).mono ?_; rintro e w' ⟨rfl, rfl⟩))
  exact ⟨_, results_tmp rfl _ _ _, rfl, (Below.refl _ _).alloc (Nat.le_refl _) _⟩

set_option maxRecDepth 100000 in
set_option maxHeartbeats 4000000 in
theorem flush_blown (w : World) (hD : DkAt w p bl v bufs laid false true 0) :
    Calls Tryd.prog 39 #[.pointer (some ⟨p, 0, none⟩)] w fun e w' => e = .returned (.int .i64 8) ∧ DkAt w' p bl v bufs laid true true 0 ∧ Frm (Two p bl) w w' := by
  refine (callsIn_wide (n := 0)).1 (callsIn_of_wp_marks Tryd.func39 rfl trivial ?_ rfl)
  simp only [Tryd.ntmps39, List.size_toArray, List.length_cons, List.length_nil, Nat.reduceAdd, Nat.reduceSub, Array.replicate_succ, Array.replicate_zero, List.push_toArray, List.append_toArray, List.nil_append, List.cons_append]
  have hb1 : Below w.heap.size w (w.alloc (.cells #[.pointer (some ⟨p, 0, none⟩)] 24)) := (Below.refl _ _).alloc (Nat.le_refl _) _
  have hD1 := hD.stays hb1
  gi_wp2_with (first
    | (gi_at_call 74; refine (callsIn_wide.2 (down_run _ hD1)).mono ?_; rintro e w' ⟨rfl, rfl⟩)
    | (gi_at_call 75; refine (callsIn_wide.2 (spend_run _ hD1)).mono ?_; rintro e w2 ⟨rfl, hD2, hb2⟩; rw [show may true 0 = false from rfl] at hD2 ⊢))
  exact ⟨_, results_tmp rfl _ _ _, rfl, hD2, (Frm.of_below hb1).trans (Frm.of_but hb2 (.inl rfl))⟩

set_option maxRecDepth 100000 in
set_option maxHeartbeats 4000000 in
theorem flush_done (w : World) (hD : DkAt w p bl v bufs laid false fused left) (hm : may fused left = true) (hlen : bufs.length ≤ 1000000) :
    Calls Tryd.prog 39 #[.pointer (some ⟨p, 0, none⟩)] w fun e w' => e = .returned (.int .i64 0) ∧ DkAt w' p bl (.slice none 0 0) [] (laidTo laid bufs (fun _ => 256) bufs.length) false fused (if fused then left - 1 else left) ∧ Frm (Two p bl) w w' := by
  refine (callsIn_wide (n := 0)).1 (callsIn_of_wp_marks Tryd.func39 rfl trivial ?_ rfl)
  simp only [Tryd.ntmps39, List.size_toArray, List.length_cons, List.length_nil, Nat.reduceAdd, Nat.reduceSub, Array.replicate_succ, Array.replicate_zero, List.push_toArray, List.append_toArray, List.nil_append, List.cons_append]
  have hb1 : Below w.heap.size w (w.alloc (.cells #[.pointer (some ⟨p, 0, none⟩)] 24)) := (Below.refl _ _).alloc (Nat.le_refl _) _
  have hD1 := hD.stays hb1
  have hpw : w.heap.size ≠ p := by have := hD.blk.lt; omega
  have hpl : w.heap.size ≠ bl := by have := hD.row.lt; omega
  have hbx : (w.alloc (.cells #[.pointer (some ⟨p, 0, none⟩)] 24)).cell? ⟨w.heap.size, 0, none⟩ = some (.pointer (some ⟨p, 0, none⟩)) := by simp
  obtain ⟨left', hleft⟩ : ∃ l, l = (if fused then left - 1 else left) := ⟨_, rfl⟩
  rw [← hleft]
  gi_wp2_with (first
    | (gi_at_call 74; refine (callsIn_wide.2 (down_run _ hD1)).mono ?_; rintro e w' ⟨rfl, rfl⟩)
    | (gi_at_call 75; refine (callsIn_wide.2 (spend_run _ hD1)).mono ?_; rintro e w2 ⟨rfl, hD2, hb2⟩; rw [hm] at hD2 ⊢; rw [← hleft] at hD2; have hbx2 : w2.cell? ⟨w.heap.size, 0, none⟩ = some (.pointer (some ⟨p, 0, none⟩)) := (World.cell?_of_block (hb2.block _ hpw (by simp))).trans hbx))
  have hs2 : w.heap.size ≤ w2.heap.size := by have := hb2.size; simp at this; omega
  have hF2 : Frm (Two p bl) w w2 := (Frm.of_below hb1).trans (Frm.of_but hb2 (.inl rfl))
  refine wpIn_range_bound 72 (.pointer (some ⟨p, 0, none⟩)) rfl (enters_of Tryd.func72 (by kernel_rfl) rfl) bufs.length (fun i => #[.int .i64 (i : Int), (bufs.getD i noBuf).agg]) (Nd p v bufs) (fun W h => oldest_iter p v bufs hlen W h) (fun _ => rfl)
    (fun i W => DkAt W p bl v bufs (laidTo laid bufs (fun _ => 256) i) false fused left' ∧ Frm (Two p bl) w W ∧ W.cell? ⟨w.heap.size, 0, none⟩ = some (.pointer (some ⟨p, 0, none⟩))) (fun _ _ => False)
    (fun i W h => h.1.nd) (fun i W W' h hA => ⟨h.1.aside hA, h.2.1.aside hA hs2, hA.cell h.2.2⟩) (fun _ _ _ h _ => h) ⟨hD2, hF2, hbx2⟩ ?round ?done ?stop
  case round =>
    rintro l i W K hi ⟨hDi, hFi, hbxi⟩ hK
    obtain ⟨f, hfe⟩ : ∃ f, f = bufs.getD i noBuf := ⟨_, rfl⟩
    have hfm : f ∈ bufs := hfe ▸ getD_mem hi
    have hf := hDi.buf f hfm
    rw [laidTo_succ, ← hfe] at hK
    dsimp only
    rw [← hfe]
    unfold Buf.agg Buf.slice
    clear hfe
    gi_wp2
    refine hK _ _ ((KeepsOthers.alloc _ _).from _) (fun w₃ hA => ?_)
    have hba : Below W.heap.size W (W.alloc (.cells #[.int .i64 (f.at' : Int), .slice (some ⟨f.blk, 0, none⟩) f.xs.length f.cap] 149)) := (Below.refl _ _).alloc (Nat.le_refl _) _
    have hD3 := (hDi.stays hba).aside hA
    have hc0 : w₃.cell? ⟨W.heap.size, 0, none⟩ = some (.int .i64 (f.at' : Int)) := hA.cell (by simp)
    have hc1 : w₃.cell? ⟨W.heap.size, 1, none⟩ = some (.slice (some ⟨f.blk, 0, none⟩) f.xs.length f.cap) := hA.cell (by simp)
    have hbx3 := hA.cell (hba.cell (World.block_lt_of_cell? _ _ hbxi) ▸ hbxi)
    have hF3 := (hFi.trans (Frm.of_below hba)).aside hA hs2
    have hcall := lay_run f 256 w₃ hD3 (hD3.buf f hfm).1 hf.2.1 hf.2.2
    unfold Buf.slice at hcall
    gi_wp2_with (gi_at_call 73; go_loud (refine (CallsIn.inRound l (callsIn_wide.2 hcall)).mono ?_; rintro e w4 ⟨⟨_, rfl⟩, hD4, hb4⟩))
    have hbl : bl < w2.heap.size := hD2.row.lt
    exact ⟨keeps_but hb4 hbl, hD4, hF3.trans (Frm.of_but hb4 (.inr rfl)), (World.cell?_of_block (hb4.block _ hpl (World.block_lt_of_cell? _ _ hbx3))).trans hbx3⟩
  case done =>
    rintro W ⟨hDW, hFW, hbxW⟩ hK
    have hcv := hDW.fields.2.1
    have hfv := hDW.free 1
    gi_wp2
    have hK2 := (KeepsOthers.setCell W ⟨p, 1, none⟩ (.slice none 0 0)).same _ _ hK rfl
    refine ⟨by simp, .inl ⟨_, _, rfl, run_takeDeferred hK2, ?_⟩⟩
    have hA := Aside.put (B := w2.heap.size) (.deferred none) hK2 (Nat.le_refl _) rfl
    have hbs : But p W (W.setCell ⟨p, 1, none⟩ (.slice none 0 0)) := (But.refl _ _).setCell _ _
    exact ⟨_, results_tmp rfl _ _ _, rfl, (hDW.clear hDW.lft hbs (hDW.blk.set 1 _)).aside hA, (hFW.trans (Frm.of_but hbs (.inl rfl))).aside hA hs2⟩
  case stop =>
    rintro c W h _
    exact h.elim

end

end Go.Proofs.YtcfjkkjjcljaoaaDoor

/-
  Package disk: Crash.
-/

namespace Go.Proofs.YtcfjkkjjcljaoaaDoor
set_option linter.unusedSimpArgs false
set_option linter.unusedVariables false
set_option maxRecDepth 100000
open Go.RowKit
attribute [local go_sem] Oper.semAt_some wide_fn wide_depth round_fn round_depth

/-- Integers behind a slice. -/
def Is (w : World) (a : Option Addr) (ks : List Int) : Prop := ks = [] ∨ ∃ b off, a = some ⟨b, off, none⟩ ∧ ∀ i, i < ks.length → w.cell? ⟨b, off + i, none⟩ = some (.int .i64 (ks.getD i 0))

theorem Is.at {w : World} {a : Option Addr} {ks : List Int} (h : Is w a ks) {k : Nat} (hk : k < ks.length) : ∃ b off, a = some ⟨b, off, none⟩ ∧ w.cell? ⟨b, off + k, none⟩ = some (.int .i64 (ks.getD k 0)) := by
  rcases h with rfl | ⟨b, off, rfl, hc⟩
  · simp at hk
  · exact ⟨b, off, rfl, hc k hk⟩

theorem Is.stays {w w' : World} {a : Option Addr} {ks : List Int} (h : Is w a ks) (hb : Below w.heap.size w w') : Is w' a ks := by
  rcases h with h | ⟨b, off, rfl, hc⟩
  · exact .inl h
  · refine .inr ⟨b, off, rfl, fun i hi => ?_⟩
    rw [hb.cell (World.block_lt_of_cell? w _ (hc i hi))]
    exact hc i hi

theorem Is.frm {w w' : World} {a : Option Addr} {ks : List Int} {F : Nat → Prop} (h : Is w a ks) (hb : Frm F w w') (hne : ks ≠ [] → ∀ x, a = some x → ¬ F x.block) : Is w' a ks := by
  rcases h with h | ⟨b, off, rfl, hc⟩
  · exact .inl h
  · refine .inr ⟨b, off, rfl, fun i hi => ?_⟩
    have h1 := hc i hi
    rw [World.cell?_of_block (w := w) (hb.block b (hne (fun h => by rw [h] at hi; simp at hi) _ rfl) (World.block_lt_of_cell? w _ h1))]
    exact h1

section
variable {p bl : Nat} {v : Value} {bufs : List Buf} {laid : List Int} {off fused : Bool} {left : Nat}

set_option maxRecDepth 100000 in
set_option maxHeartbeats 1000000 in
theorem crash_run (w : World) (ka : Option Addr) (kc : Nat) (ks : List Int) (hD : DkAt w p bl v bufs laid off fused left) (hlen : bufs.length ≤ 1000000) (hK : Is w ka ks) (hkl : ks.length ≤ 140737488351232) (hne : ks ≠ [] → ∀ x, ka = some x → ¬ Two p bl x.block) :
    Calls Tryd.prog 38 #[.pointer (some ⟨p, 0, none⟩), .slice ka ks.length kc] w fun e w' => (∃ v, e = .returned v) ∧ DkAt w' p bl (.slice none 0 0) [] (laidTo laid bufs (fun k => ks.getD k 0) (min bufs.length ks.length)) false false 0 ∧ Frm (Two p bl) w w' := by
  refine (callsIn_wide (n := 0)).1 (callsIn_of_wp_marks Tryd.func38 rfl trivial ?_ rfl)
  simp only [Tryd.ntmps38, List.size_toArray, List.length_cons, List.length_nil, Nat.reduceAdd, Nat.reduceSub, Array.replicate_succ, Array.replicate_zero, List.push_toArray, List.append_toArray, List.nil_append, List.cons_append]
  have hpw : p < w.heap.size := hD.blk.lt
  have hpl : bl < w.heap.size := hD.row.lt
  have hpl2 : w.heap.size ≠ bl := by omega
  have hpw2 : w.heap.size ≠ p := by omega
  have hpl3 : w.heap.size + 1 ≠ bl := by omega
  gi_wp2
  obtain ⟨w1, hw1⟩ : ∃ w1, w1 = (w.alloc (.cells #[.pointer (some ⟨p, 0, none⟩)] 24)).alloc (.cells #[.slice ka ks.length kc] 74) := ⟨_, rfl⟩
  have hb1 : Below w.heap.size w w1 := by rw [hw1]; exact ((Below.refl _ _).alloc (Nat.le_refl _) _).alloc (by simp) _
  have hc1 : w1.cell? ⟨w.heap.size, 0, none⟩ = some (.pointer (some ⟨p, 0, none⟩)) := by rw [hw1]; simp
  have hc2 : w1.cell? ⟨w.heap.size + 1, 0, none⟩ = some (.slice ka ks.length kc) := by rw [hw1]; simp
  rw [← hw1]
  have hs1 : w.heap.size ≤ w1.heap.size := hb1.size
  clear hw1
  refine wpIn_range_bound 72 (.pointer (some ⟨p, 0, none⟩)) rfl (enters_of Tryd.func72 (by kernel_rfl) rfl) bufs.length (fun i => #[.int .i64 (i : Int), (bufs.getD i noBuf).agg]) (Nd p v bufs) (fun W h => oldest_iter p v bufs hlen W h) (fun _ => rfl)
    (fun i W => i ≤ ks.length ∧ DkAt W p bl v bufs (laidTo laid bufs (fun k => ks.getD k 0) i) off fused left ∧ Frm (Two p bl) w W ∧ W.cell? ⟨w.heap.size, 0, none⟩ = some (.pointer (some ⟨p, 0, none⟩)) ∧ W.cell? ⟨w.heap.size + 1, 0, none⟩ = some (.slice ka ks.length kc))
    (fun c W => c = .exit 0 ∧ ks.length < bufs.length ∧ DkAt W p bl v bufs (laidTo laid bufs (fun k => ks.getD k 0) ks.length) off fused left ∧ Frm (Two p bl) w W ∧ W.cell? ⟨w.heap.size, 0, none⟩ = some (.pointer (some ⟨p, 0, none⟩)))
    (fun i W h => h.2.1.nd) (fun i W W' h hA => ⟨h.1, h.2.1.aside hA, h.2.2.1.aside hA hs1, hA.cell h.2.2.2.1, hA.cell h.2.2.2.2⟩) (fun c W W' h hA => ⟨h.1, h.2.1, h.2.2.1.aside hA, h.2.2.2.1.aside hA hs1, hA.cell h.2.2.2.2⟩) ⟨Nat.zero_le _, hD.stays hb1, Frm.of_below hb1, hc1, hc2⟩ ?round ?done ?stop
  case round =>
    rintro l i W K hi ⟨hik, hDi, hFi, hbxi, hbyi⟩ hR
    obtain ⟨f, hfe⟩ : ∃ f, f = bufs.getD i noBuf := ⟨_, rfl⟩
    have hfm : f ∈ bufs := hfe ▸ getD_mem hi
    have hf := hDi.buf f hfm
    rw [laidTo_succ, ← hfe] at hR
    dsimp only
    rw [← hfe]
    unfold Buf.agg Buf.slice
    clear hfe
    gi_wp2
    refine hR _ _ ((KeepsOthers.alloc _ _).from _) (fun w₃ hA => ?_)
    have hba : Below W.heap.size W (W.alloc (.cells #[.int .i64 (f.at' : Int), .slice (some ⟨f.blk, 0, none⟩) f.xs.length f.cap] 149)) := (Below.refl _ _).alloc (Nat.le_refl _) _
    have hD3 := (hDi.stays hba).aside hA
    have hd0 : w₃.cell? ⟨W.heap.size, 0, none⟩ = some (.int .i64 (f.at' : Int)) := hA.cell (by simp)
    have hd1 : w₃.cell? ⟨W.heap.size, 1, none⟩ = some (.slice (some ⟨f.blk, 0, none⟩) f.xs.length f.cap) := hA.cell (by simp)
    have hbx3 := hA.cell (hba.cell (World.block_lt_of_cell? _ _ hbxi) ▸ hbxi)
    have hby3 := hA.cell (hba.cell (World.block_lt_of_cell? _ _ hbyi) ▸ hbyi)
    have hF3 := (hFi.trans (Frm.of_below hba)).aside hA hs1
    by_cases hik2 : i = ks.length
    · have hieq : ((i : Int) = (ks.length : Int)) = True := eq_true (by omega)
      gi_wp2
      exact ⟨KeepsFrom.refl _ _, rfl, by omega, hik2 ▸ hD3, hF3, hbx3⟩
    · have hlt : i < ks.length := by omega
      obtain ⟨b, o, rfl, hkc⟩ := (hK.frm hF3 hne).at hlt
      have hieq : ((i : Int) = (ks.length : Int)) = False := eq_false (by omega)
      have hlt' : (i : Int) < (ks.length : Int) := by omega
      obtain ⟨kn, hkn⟩ : ∃ kn, kn = ks.getD i 0 := ⟨_, rfl⟩
      rw [← hkn] at hkc hR
      have HKN : Hid (kn = ks.getD i 0) := hkn
      clear hkn
      have hcall := lay_run f kn w₃.drew hD3.drew (hD3.drew.buf f hfm).1 hf.2.1 hf.2.2
      unfold Buf.slice at hcall
      gi_wp2
      gi_region_with (gi_at_call 73; refine (CallsIn.inRound l (callsIn_wide.2 hcall)).mono ?_; rintro e w4 ⟨⟨_, rfl⟩, hD4, hb4⟩)
      all_goals exact ⟨keeps_but ((But.refl _ _).drew.trans hb4) (by omega), by omega, HKN.out ▸ hD4, (hF3.drew).trans (Frm.of_but hb4 (.inr rfl)), (World.cell?_of_block (hb4.block _ hpl2 (World.block_lt_of_cell? _ _ hbx3))).trans hbx3, (World.cell?_of_block (hb4.block _ hpl3 (World.block_lt_of_cell? _ _ hby3))).trans hby3⟩
  case done =>
    rintro W ⟨hik, hDW, hFW, hbxW, hbyW⟩ hK
    have hmin : min bufs.length ks.length = bufs.length := by omega
    rw [← hmin] at hDW
    obtain ⟨h0, h1, h2, h3, h4⟩ := hDW.fields
    have f1 := hDW.free 1
    gi_wp2
    obtain ⟨W1, hW1⟩ : ∃ W1, W1 = W.setCell ⟨p, 1, none⟩ (.slice none 0 0) := ⟨_, rfl⟩
    have hbs : But p W W1 := by rw [hW1]; exact (But.refl _ _).setCell _ _
    have hD1 : DkAt W1 p bl (.slice none 0 0) [] (laidTo laid bufs (fun k => ks.getD k 0) (min bufs.length ks.length)) off fused left := by rw [hW1]; exact hDW.clear hDW.lft ((But.refl _ _).setCell _ _) (hDW.blk.set 1 _)
    have hbx1 : W1.cell? ⟨w.heap.size, 0, none⟩ = some (.pointer (some ⟨p, 0, none⟩)) := (World.cell?_of_block (hbs.block _ hpw2 (World.block_lt_of_cell? _ _ hbxW))).trans hbxW
    have hK1 : W1.heap[w1.heap.size]? = some (.deferred (some [])) := (hbs.block _ (by omega) (Array.getElem?_eq_some_iff.1 hK).1).trans hK
    rw [← hW1]
    clear hW1 h0 h1 h2 h3 h4 f1 hDW
    obtain ⟨h0, h1, h2, h3, h4⟩ := hD1.fields
    have f2 := hD1.free 2
    have f3 := hD1.free 3
    have f4 := hD1.free 4
    refine wpIn_wide.2 ?_
    go_region
    obtain ⟨W2, hW2⟩ : ∃ W2, W2 = ((W1.setCell ⟨p, 2, none⟩ (.bool false)).setCell ⟨p, 3, none⟩ (.bool false)).setCell ⟨p, 4, none⟩ (.int .i64 0) := ⟨_, rfl⟩
    have hb2 : But p W1 W2 := by rw [hW2]; exact (((But.refl _ _).setCell _ _).setCell _ _).setCell _ _
    have hD2 : DkAt W2 p bl (.slice none 0 0) [] (laidTo laid bufs (fun k => ks.getD k 0) (min bufs.length ks.length)) false false 0 := hD1.flags (by omega) hb2 (by rw [hW2]; exact ((hD1.blk.set 2 _).set 3 _).set 4 _)
    have hK2 : W2.drew.heap[w1.heap.size]? = some (.deferred (some [])) := (hb2.block _ (by omega) (Array.getElem?_eq_some_iff.1 hK1).1).trans hK1
    have hA := Aside.put (B := w1.heap.size) (.deferred none) hK2 (Nat.le_refl _) rfl
    rw [← hW2]
    refine ⟨by simp, .inl ⟨_, _, rfl, run_takeDeferred hK2, ?_⟩⟩
    exact ⟨_, results_none rfl _ _ _, ⟨_, rfl⟩, hD2.drew.aside hA, (((hFW.trans (Frm.of_but hbs (.inl rfl))).trans (Frm.of_but hb2 (.inl rfl))).drew).aside hA hs1⟩
  case stop =>
    rintro c W ⟨rfl, hik, hDW, hFW, hbxW⟩ hK
    have hmin : min bufs.length ks.length = ks.length := by omega
    rw [← hmin] at hDW
    obtain ⟨h0, h1, h2, h3, h4⟩ := hDW.fields
    have f1 := hDW.free 1
    gi_wp2
    obtain ⟨W1, hW1⟩ : ∃ W1, W1 = W.setCell ⟨p, 1, none⟩ (.slice none 0 0) := ⟨_, rfl⟩
    have hbs : But p W W1 := by rw [hW1]; exact (But.refl _ _).setCell _ _
    have hD1 : DkAt W1 p bl (.slice none 0 0) [] (laidTo laid bufs (fun k => ks.getD k 0) (min bufs.length ks.length)) off fused left := by rw [hW1]; exact hDW.clear hDW.lft ((But.refl _ _).setCell _ _) (hDW.blk.set 1 _)
    have hbx1 : W1.cell? ⟨w.heap.size, 0, none⟩ = some (.pointer (some ⟨p, 0, none⟩)) := (World.cell?_of_block (hbs.block _ hpw2 (World.block_lt_of_cell? _ _ hbxW))).trans hbxW
    have hK1 : W1.heap[w1.heap.size]? = some (.deferred (some [])) := (hbs.block _ (by omega) (Array.getElem?_eq_some_iff.1 hK).1).trans hK
    rw [← hW1]
    clear hW1 h0 h1 h2 h3 h4 f1 hDW
    obtain ⟨h0, h1, h2, h3, h4⟩ := hD1.fields
    have f2 := hD1.free 2
    have f3 := hD1.free 3
    have f4 := hD1.free 4
    refine wpIn_wide.2 ?_
    go_region
    obtain ⟨W2, hW2⟩ : ∃ W2, W2 = ((W1.setCell ⟨p, 2, none⟩ (.bool false)).setCell ⟨p, 3, none⟩ (.bool false)).setCell ⟨p, 4, none⟩ (.int .i64 0) := ⟨_, rfl⟩
    have hb2 : But p W1 W2 := by rw [hW2]; exact (((But.refl _ _).setCell _ _).setCell _ _).setCell _ _
    have hD2 : DkAt W2 p bl (.slice none 0 0) [] (laidTo laid bufs (fun k => ks.getD k 0) (min bufs.length ks.length)) false false 0 := hD1.flags (by omega) hb2 (by rw [hW2]; exact ((hD1.blk.set 2 _).set 3 _).set 4 _)
    have hK2 : W2.drew.heap[w1.heap.size]? = some (.deferred (some [])) := (hb2.block _ (by omega) (Array.getElem?_eq_some_iff.1 hK1).1).trans hK1
    have hA := Aside.put (B := w1.heap.size) (.deferred none) hK2 (Nat.le_refl _) rfl
    rw [← hW2]
    refine ⟨by simp, .inl ⟨_, _, rfl, run_takeDeferred hK2, ?_⟩⟩
    exact ⟨_, results_none rfl _ _ _, ⟨_, rfl⟩, hD2.drew.aside hA, (((hFW.trans (Frm.of_but hbs (.inl rfl))).trans (Frm.of_but hb2 (.inl rfl))).drew).aside hA hs1⟩

end
end Go.Proofs.YtcfjkkjjcljaoaaDoor
