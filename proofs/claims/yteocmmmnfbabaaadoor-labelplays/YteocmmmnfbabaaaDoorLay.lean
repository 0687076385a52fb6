/-
  Package disk: a waiting write's first bytes are laid onto the disk.
-/
import Derived.Test.YteocmmmnfbabaaaDoorDisk2
import Derived.Deep.RegionHeldLaw
namespace Go.Proofs.YteocmmmnfbabaaaDoor
set_option linter.unusedSimpArgs false
set_option linter.unusedVariables false
open Go.RowKit

def clamp (n : Int) : Nat := (min (max n 0) 256).toNat
theorem clamp_le (n : Int) : clamp n ≤ 256 := by unfold clamp; omega

/-- Bytes over a sector's beginning. -/
def layAt (laid : List Int) (i : Nat) (ys : List Int) : List Int := laid.take (256 * i) ++ (ys ++ laid.drop (256 * i + ys.length))

theorem layAt_length {laid : List Int} {i : Nat} {ys : List Int} (h : 256 * i + ys.length ≤ laid.length) : (layAt laid i ys).length = laid.length := by
  unfold layAt; simp; omega

theorem layAt_rng {laid : List Int} {i : Nat} {ys : List Int} (h : ∀ x ∈ laid, 0 ≤ x ∧ x ≤ 255) (hy : ∀ x ∈ ys, 0 ≤ x ∧ x ≤ 255) : ∀ x ∈ layAt laid i ys, 0 ≤ x ∧ x ≤ 255 := by
  intro x hx
  unfold layAt at hx
  simp only [List.mem_append] at hx
  rcases hx with hx | hx | hx
  · exact h x (List.mem_of_mem_take hx)
  · exact hy x hx
  · exact h x (List.mem_of_mem_drop hx)

/-- A disk whose sectors' bytes are others. -/
theorem DkAt.relaid {w w' : World} {p bl : Nat} {v : Value} {bufs : List Buf} {laid laid' : List Int} {off fused : Bool} {left : Nat} (h : DkAt w p bl v bufs laid off fused left) (hl : laid'.length = laid.length) (hr : ∀ x ∈ laid', 0 ≤ x ∧ x ≤ 255) (hb : But bl w w')
    (hk : Row 5 w' bl laid') : DkAt w' p bl v bufs laid' off fused left := by
  have hpb := h.p_ne_bl
  refine ⟨?_, hk, owns_keep h.own (fun k e => ?_), fun f hf => ⟨(h.buf f hf).1.keep ?_, (h.buf f hf).2.1, by rw [hl]; exact (h.buf f hf).2.2⟩, hr, by rw [hl]; exact h.siz, h.lft⟩
  · have h1 := h.blk
    rw [hl]
    unfold Blk at *
    rw [hb.keeps hpb h1]; exact h1
  · obtain ⟨cs, hc⟩ := own_type h.own e
    exact hb.keeps (h.bl_ne_v e) hc
  · obtain ⟨cs, hc⟩ := (h.buf f hf).1.blk
    exact hb.keeps (h.buf f hf).2.1 hc

/-- copy into a block, as a step of a region that draws. -/
theorem step_copy_but {P : Program} {ops : Array Oper} {o : Oper} {a : Act} {w : World} {K : Act → World → Prop} {Q : Exit → Act → World → Prop} {E : Prop} (hgd : o.guard = none) (d s : Operand) (dT sT : TypeId)
    (ho : o.op = .call { callee := .builtin .copy, args := #[d, s], argTypes := #[dT, sT] }) (elem : TypeId) (hu : P.underlying dT = some (.slice elem)) (hsz : (P.info? elem).map (·.size) = some 1)
    (dLen dCap sLen sCap g off : Nat) (ad : Addr) (hd : a.eval d = .slice (some ⟨g, off, none⟩) dLen dCap) (hs : a.eval s = .slice (some ad) sLen sCap)
    (cur : List Value) (t : TypeId) (hg : w.heap[g]? = some (.cells cur.toArray t (0, 0))) (cs : List Value) (hn : cs.length = Nat.min sLen dLen)
    (hsrc : ∀ j v, cs[j]? = some v → w.cell? (ad.add j) = some v)
    (hfit : off + cs.length ≤ cur.length) (h1 : ∀ v ∈ cs, v.oneCell' = true)
    (h : ∀ w', Hid (w'.heap[g]? = some (.cells (splice cur off cs).toArray t (0, 0))) → But g w w' → K (a.put o.dst (goInt cs.length)) w') :
    if Region.wanted o (yielded ops a.tmps) = true then Oper.wp P o a w K Q else E := by
  have hw : Region.wanted o (yielded ops a.tmps) = true := by simp [Region.wanted, hgd]
  rw [if_pos hw]
  have hrun := run_copy_row (P := P) w dT sT o.type elem g off dLen dCap ad sLen sCap cur.toArray t cs hu hsz hg hn hsrc (by simpa using hfit) h1
  unfold Oper.wp
  simp [execOp, ho, resolve, invoke, builtin, hd, hs, hrun, Result.andThen]
  exact h _ (show _ = _ by simpa [splice] using setRow_heap w g _ _ t _ hg) ((But.refl g w).setRow _)

section
variable {p bl : Nat} {v : Value} {bufs : List Buf} {laid : List Int} {off fused : Bool} {left : Nat}

set_option maxHeartbeats 4000000 in
theorem lay_run (f : Buf) (n : Int) (w : World) (hD : DkAt w p bl v bufs laid off fused left) (hf : BufAt w f) (hne : f.blk ≠ bl) (hat : 256 * f.at' + 256 ≤ laid.length) :
    Calls Tryd.prog 54 #[.pointer (some ⟨p, 0, none⟩), .agg #[.int .i64 (f.at' : Int), f.slice], .int .i64 n] w fun e w' =>
      (∃ v, e = .returned v) ∧ DkAt w' p bl v bufs (layAt laid f.at' (f.xs.take (clamp n))) off fused left ∧ But bl w w' := by
  unfold Buf.slice
  have hlen := hf.len
  rw [hlen]
  go_enter Tryd.func54, Tryd.ntmps54
  go_wp2
  obtain ⟨W, hW⟩ : ∃ W, W = w.alloc (Obj.cells #[Value.int IntKind.i64 (f.at' : Int), Value.slice (some ⟨f.blk, 0, none⟩) 256 f.cap] 91) := ⟨_, rfl⟩
  have hbW : Below w.heap.size w W := by rw [hW]; exact (Below.refl _ _).alloc (Nat.le_refl _) _
  have hc0 : W.cell? ⟨w.heap.size, 0, none⟩ = some (.int .i64 (f.at' : Int)) := by rw [hW]; simp
  have hc1 : W.cell? ⟨w.heap.size, 1, none⟩ = some (.slice (some ⟨f.blk, 0, none⟩) 256 f.cap) := by rw [hW]; simp
  have hDW := hD.stays hbW
  have hHb : w.heap.size ≠ bl := by have := hD.row.lt; omega
  obtain ⟨H, hH⟩ : ∃ H, H = w.heap.size := ⟨_, rfl⟩
  rw [← hW]
  rw [← hH] at hc0 hc1 hHb ⊢
  clear hW hH
  have hHlt : H < W.drew.heap.size := World.block_lt_of_cell? W _ hc0
  have hrow : W.drew.heap[bl]? = some (.cells (laid.map (Value.int .u8)).toArray 5 (0, 0)) := hDW.row
  have hBW : Bs W.drew (some ⟨f.blk, 0, none⟩) f.cap f.xs := hf.bs.stays hbW.drew
  have hT : ∀ m, m ≤ 256 → Bs W.drew (some ⟨f.blk, 0, none⟩) f.cap (f.xs.take m) := fun m hm => (hBW.upto (P := Tryd.prog) 27 5 Tryd.underlying27 (by kernel_rfl) (by kernel_rfl) m (by omega)).2
  have hsrc : ∀ m, m ≤ 256 → ∀ j u, ((f.xs.take m).map (Value.int .u8))[j]? = some u → W.drew.cell? ((⟨f.blk, 0, none⟩ : Addr).add j) = some u := fun m hm => by
    rcases (hT m hm).lay with h0 | ⟨b, o, ha, hc⟩
    · rw [h0]; simp
    · simp at ha
      obtain ⟨rfl, rfl⟩ := ha
      exact Bs.srcCells hc
  have hlm : ∀ m, m ≤ 256 → ((f.xs.take m).map (Value.int .u8)).length = Nat.min m 256 := fun m hm => by simp [hlen]
  have hfit : ∀ m, m ≤ 256 → 256 * f.at' + ((f.xs.take m).map (Value.int .u8)).length ≤ (laid.map (Value.int .u8)).length := fun m hm => by simp; omega
  have hend : ∀ m, m ≤ 256 → clamp n = m → ∀ w4, Hid (w4.heap[bl]? = some (.cells (splice (laid.map (Value.int .u8)) (256 * f.at') ((f.xs.take m).map (Value.int .u8))).toArray 5 (0, 0))) → But bl W.drew w4 →
      DkAt w4 p bl v bufs (layAt laid f.at' (f.xs.take (clamp n))) off fused left ∧ But bl w w4 := fun m hm hc w4 h4 hb4 => by
    have hl : (f.xs.take m).length ≤ 256 := by simp; omega
    refine ⟨hDW.drew.relaid (layAt_length (by rw [hc]; omega)) (layAt_rng hD.rng (fun x hx => hf.bs.rng x (List.mem_of_mem_take hx))) hb4 ?_, (But.of_below (hbW.drew)).trans hb4⟩
    have := h4.out
    unfold Row
    rw [this, hc]
    simp [splice, layAt, List.map_take, List.map_drop]
  rcases (by omega : n < 0 ∨ (0 ≤ n ∧ n ≤ 256) ∨ 256 < n) with hn | ⟨hn1, hn2⟩ | hn
  · have hcl : clamp n = 0 := by unfold clamp; omega
    go_region_held_law (fun w' => w'.cell? ⟨H, 0, none⟩ = some (.int .i64 (f.at' : Int)) ∧ w'.cell? ⟨H, 1, none⟩ = some (.slice (some ⟨f.blk, 0, none⟩) 256 f.cap)) (first | go_keep | exact ⟨(World.cell?_of_block (hb4.block _ hHb hHlt)).trans hc0, (World.cell?_of_block (hb4.block _ hHb hHlt)).trans hc1⟩)
      (first
        | (go_at_call 57; refine (sector_run f.at' _ hDW.drew hat).mono ?_; rintro e w' ⟨rfl, rfl⟩)
        | (refine step_copy_but rfl (.tmp 9) (.tmp 15) 27 27 rfl 5 Tryd.underlying27 (by kernel_rfl) 256 (laid.length - 256 * f.at') 0 f.cap bl (256 * f.at') ⟨f.blk, 0, none⟩ rfl rfl (laid.map (Value.int .u8)) 5 hrow ((f.xs.take 0).map (Value.int .u8)) (hlm _ (by omega)) (hsrc _ (by omega)) (hfit _ (by omega)) (int_oneCell _ _) ?_; intro w4 h4 hb4))
    all_goals (go_end0; exact ⟨⟨_, rfl⟩, hend _ (by omega) hcl _ h4 hb4⟩)
  · obtain ⟨m, rfl⟩ : ∃ m : Nat, n = (m : Int) := ⟨n.toNat, by omega⟩
    have hm : m ≤ 256 := by omega
    have hcap : (m : Int) ≤ (f.cap : Int) := by have := hf.bs.cap; omega
    have hcl : clamp (m : Int) = m := by unfold clamp; omega
    go_region_held_law (fun w' => w'.cell? ⟨H, 0, none⟩ = some (.int .i64 (f.at' : Int)) ∧ w'.cell? ⟨H, 1, none⟩ = some (.slice (some ⟨f.blk, 0, none⟩) 256 f.cap)) (first | go_keep | exact ⟨(World.cell?_of_block (hb4.block _ hHb hHlt)).trans hc0, (World.cell?_of_block (hb4.block _ hHb hHlt)).trans hc1⟩)
      (first
        | (go_at_call 57; refine (sector_run f.at' _ hDW.drew hat).mono ?_; rintro e w' ⟨rfl, rfl⟩)
        | (refine step_copy_but rfl (.tmp 9) (.tmp 15) 27 27 rfl 5 Tryd.underlying27 (by kernel_rfl) 256 (laid.length - 256 * f.at') m f.cap bl (256 * f.at') ⟨f.blk, 0, none⟩ rfl rfl (laid.map (Value.int .u8)) 5 hrow ((f.xs.take m).map (Value.int .u8)) (hlm _ hm) (hsrc _ hm) (hfit _ hm) (int_oneCell _ _) ?_; intro w4 h4 hb4))
    all_goals (go_end0; exact ⟨⟨_, rfl⟩, hend _ hm hcl _ h4 hb4⟩)
  · have hcl : clamp n = 256 := by unfold clamp; omega
    have hcap : (256 : Int) ≤ (f.cap : Int) := by have := hf.bs.cap; omega
    go_region_held_law (fun w' => w'.cell? ⟨H, 0, none⟩ = some (.int .i64 (f.at' : Int)) ∧ w'.cell? ⟨H, 1, none⟩ = some (.slice (some ⟨f.blk, 0, none⟩) 256 f.cap)) (first | go_keep | exact ⟨(World.cell?_of_block (hb4.block _ hHb hHlt)).trans hc0, (World.cell?_of_block (hb4.block _ hHb hHlt)).trans hc1⟩)
      (first
        | (go_at_call 57; refine (sector_run f.at' _ hDW.drew hat).mono ?_; rintro e w' ⟨rfl, rfl⟩)
        | (refine step_copy_but rfl (.tmp 9) (.tmp 15) 27 27 rfl 5 Tryd.underlying27 (by kernel_rfl) 256 (laid.length - 256 * f.at') 256 f.cap bl (256 * f.at') ⟨f.blk, 0, none⟩ rfl rfl (laid.map (Value.int .u8)) 5 hrow ((f.xs.take 256).map (Value.int .u8)) (hlm _ (by omega)) (hsrc _ (by omega)) (hfit _ (by omega)) (int_oneCell _ _) ?_; intro w4 h4 hb4))
    all_goals (go_end0; exact ⟨⟨_, rfl⟩, hend _ (by omega) hcl _ h4 hb4⟩)

end
end Go.Proofs.YteocmmmnfbabaaaDoor
