/-
 Package disk: the two iterators over the waiting writes.
-/
import Derived.Test.YthbldjnpnligpaaDoorB08
import Derived.Deep.RegionHeldLaw
namespace Go.Proofs.YthbldjnpnligpaaDoor
set_option linter.unusedSimpArgs false
set_option linter.unusedVariables false
set_option maxRecDepth 100000
open Go.RowKit
attribute [local go_sem] Oper.semAt_some
def Nd (p : Nat) (v : Value) (bufs : List Buf) (W : World) : Prop := W.cell? ⟨p, 1, none⟩ = some v ∧ W.ownsRow 0 159 2 v bufs.length (bufs.flatMap Buf.cells)
def noBuf : Buf := ⟨0, [], 0, 0⟩
def Buf.agg (f : Buf) : Value := .agg #[.int .i64 (f.at' : Int), f.slice]
theorem flatMap_two {bufs : List Buf} {k : Nat} (hk : k < bufs.length) : (bufs.flatMap Buf.cells)[2 * k]? = some (.int .i64 ((bufs.getD k noBuf).at' : Int)) ∧ (bufs.flatMap Buf.cells)[2 * k + 1]? = some (bufs.getD k noBuf).slice := by
 induction bufs generalizing k with
 | nil => simp at hk
 | cons f r ih =>
   cases k with
   | zero => simp [Buf.cells]
   | succ k =>
     have := ih (k := k) (by simpa using hk)
     have e1 : 2 * (k + 1) = 2 * k + 2 := by omega
     rw [e1]
     simpa [Buf.cells] using this
theorem Nd.at {p : Nat} {v : Value} {bufs : List Buf} {W : World} (h : Nd p v bufs W) {k : Nat} (hk : k < bufs.length) :
 ∃ g cap, v = .slice (some ⟨g, 0, none⟩) bufs.length cap ∧ W.cell? ⟨g, 2 * k, none⟩ = some (.int .i64 ((bufs.getD k noBuf).at' : Int)) ∧ W.cell? ⟨g, 2 * k + 1, none⟩ = some (bufs.getD k noBuf).slice := by
 have hown := h.2
 rcases h.2.2 with ⟨_, h0⟩ | ⟨g, cap, cur, rfl, _⟩
 · omega
 · obtain ⟨h1, h2⟩ := flatMap_two hk
   exact ⟨g, cap, rfl, (hown.cellAt (2 * k) (by omega)).trans h1, (hown.cellAt (2 * k + 1) (by omega)).trans h2⟩
theorem Nd.slice {p : Nat} {v : Value} {bufs : List Buf} {W : World} (h : Nd p v bufs W) : ∃ a c, v = .slice a bufs.length c := by
 rcases h.2.2 with ⟨rfl, h0⟩ | ⟨g, cap, cur, rfl, _⟩
 · exact ⟨none, 0, by rw [h0]⟩
 · exact ⟨_, _, rfl⟩
set_option maxRecDepth 100000 in
set_option maxHeartbeats 4000000 in
theorem oldest_iter (p : Nat) (v : Value) (bufs : List Buf) (hlen : bufs.length ≤ 1000000) (W : World) (hN : Nd p v bufs W) :
 Iter Tryd.prog 90 (.pointer (some ⟨p, 0, none⟩)) bufs.length (fun i => #[.int .i64 (i : Int), (bufs.getD i noBuf).agg]) (Nd p v bufs) W := by
 intro l J Jx hJN hJB hY h0
 obtain ⟨a, c, rfl⟩ := hN.slice
 have hc := hN.1
 refine callsIn_of_wp Tryd.func90 rfl trivial ?_ rfl
 simp only [Tryd.ntmps90, List.size_toArray, List.length_cons, List.length_nil, Nat.reduceAdd, Nat.reduceSub, Array.replicate_succ, Array.replicate_zero, List.push_toArray, List.append_toArray, List.nil_append, List.cons_append]
 gi_wp2
 gi_loopw [11] (fun i wr => ∃ k : Nat, k ≤ bufs.length ∧ i = .int .i64 k ∧ J k wr) (fun i _ => bufs.length - (intOf i).toNat)
 case atStart => exact ⟨0, Nat.zero_le _, rfl, h0⟩
 case round =>
  obtain ⟨k, hk, rfl, hJs⟩ := hrel
  by_cases hlt : k < bufs.length
  · obtain ⟨g, cap, hv, hc0, hc1⟩ := (hJN k wr hJs).at hlt
    simp only [Value.slice.injEq] at hv
    obtain ⟨rfl, _, rfl⟩ := hv
    have hlt' : (k : Int) < (bufs.length : Int) := by omega
    have hJ1 : J k (wr.alloc (.cells #[.int .i64 ((bufs.getD k noBuf).at' : Int), (bufs.getD k noBuf).slice] 159)) := hJB k _ _ hJs ((Below.refl _ _).alloc (Nat.le_refl _) _)
    obtain ⟨fn, tmps, assign, body, hy, hR⟩ := hY k _ hlt hJ1
    dsimp only [Buf.agg] at hy
    obtain ⟨XB, XL, XC, hX⟩ : ∃ XB XL XC, (bufs.getD k noBuf).slice = .slice (some ⟨XB, 0, none⟩) XL XC := ⟨_, _, _, rfl⟩
    rw [hX] at hc1 hJ1 hy hR
    generalize hT : ((bufs.getD k noBuf).at' : Int) = T at *
    have e2 : 2 * k = k * 2 := by omega
    rw [e2] at hc0 hc1
    gi_wp2
    refine ⟨rfl, hR.mono ?_⟩
    rintro e W3 (⟨rfl, hJ3⟩ | ⟨rfl, hJx3⟩)
    · gi_wp2
      go_roundw
      case rel => exact ⟨k + 1, by omega, by simp, hJ3⟩
      case measure => simp [intOf]; omega
    · gi_wp2
      refine bodyPost_ret (results_none rfl _ _ _) rfl ?_
      exact ⟨⟨_, rfl⟩, .inr hJx3⟩
  · obtain rfl : k = bufs.length := by omega
    gi_wp2
    go_end0
    exact ⟨⟨_, rfl⟩, .inl hJs⟩
set_option maxRecDepth 100000 in
set_option maxHeartbeats 4000000 in
theorem newest_iter (p : Nat) (v : Value) (bufs : List Buf) (hlen : bufs.length ≤ 1000000) (W : World) (hN : Nd p v bufs W) :
 Iter Tryd.prog 166 (.pointer (some ⟨p, 0, none⟩)) bufs.length (fun i => #[(bufs.getD (bufs.length - 1 - i) noBuf).agg]) (Nd p v bufs) W := by
 intro l J Jx hJN hJB hY h0
 obtain ⟨a, c, rfl⟩ := hN.slice
 have hc := hN.1
 refine callsIn_of_wp Tryd.func166 rfl trivial ?_ rfl
 simp only [Tryd.ntmps166, List.size_toArray, List.length_cons, List.length_nil, Nat.reduceAdd, Nat.reduceSub, Array.replicate_succ, Array.replicate_zero, List.push_toArray, List.append_toArray, List.nil_append, List.cons_append]
 gi_wp2
 gi_loopw [4] (fun i wr => ∃ j : Nat, j ≤ bufs.length ∧ i = .int .i64 ((bufs.length : Int) - 1 - j) ∧ J j wr) (fun i _ => (intOf i + 1).toNat)
 case atStart => exact ⟨0, Nat.zero_le _, by simp, h0⟩
 case round =>
  obtain ⟨j, hj, rfl, hJs⟩ := hrel
  by_cases hlt : j < bufs.length
  · obtain ⟨k, hk⟩ : ∃ k : Nat, k = bufs.length - 1 - j := ⟨_, rfl⟩
    have hkl : k < bufs.length := by omega
    have ek : (bufs.length : Int) - 1 - j = (k : Int) := by omega
    obtain ⟨g, cap, hv, hc0, hc1⟩ := (hJN j wr hJs).at hkl
    have hcp := (hJN j wr hJs).1
    simp only [Value.slice.injEq] at hv
    obtain ⟨rfl, _, rfl⟩ := hv
    have hlt' : (k : Int) < (bufs.length : Int) := by omega
    obtain ⟨fn, tmps, assign, body, hy, hR⟩ := hY j _ hlt hJs
    rw [← hk] at hy
    dsimp only [Buf.agg] at hy
    obtain ⟨XB, XL, XC, hX⟩ : ∃ XB XL XC, (bufs.getD k noBuf).slice = .slice (some ⟨XB, 0, none⟩) XL XC := ⟨_, _, _, rfl⟩
    rw [hX] at hc1 hy
    generalize hT : ((bufs.getD k noBuf).at' : Int) = T at *
    have e2 : 2 * k = k * 2 := by omega
    rw [e2] at hc0 hc1
    rw [ek]
    have HK : Hid (k = bufs.length - 1 - j) := hk
    clear hk ek
    gi_wp2
    refine ⟨rfl, hR.mono ?_⟩
    rintro e W3 (⟨rfl, hJ3⟩ | ⟨rfl, hJx3⟩)
    · gi_wp2
      go_roundw
      case rel => exact ⟨j + 1, by omega, by have := HK.out; congr 1; omega, hJ3⟩
      case measure => simp [intOf]
    · gi_wp2
      refine bodyPost_ret (results_none rfl _ _ _) rfl ?_
      exact ⟨⟨_, rfl⟩, .inr hJx3⟩
  · obtain rfl : j = bufs.length := by omega
    have ek : (bufs.length : Int) - 1 - bufs.length = -1 := by omega
    rw [ek]
    gi_wp2
    go_end0
    exact ⟨⟨_, rfl⟩, .inl hJs⟩
end Go.Proofs.YthbldjnpnligpaaDoor

/-
 Package disk: a waiting write's first bytes are laid onto the disk.
-/

namespace Go.Proofs.YthbldjnpnligpaaDoor
set_option linter.unusedSimpArgs false
set_option linter.unusedVariables false
set_option maxRecDepth 100000
open Go.RowKit
def clamp (n : Int) : Nat := (min (max n 0) 256).toNat
theorem clamp_le (n : Int) : clamp n ≤ 256 := by unfold clamp; omega
def layAt (laid : List Int) (i : Nat) (ys : List Int) : List Int := laid.take (256 * i) ++ (ys ++ laid.drop (256 * i + ys.length))
theorem layAt_length {laid : List Int} {i : Nat} {ys : List Int} (h : 256 * i + ys.length ≤ laid.length) : (layAt laid i ys).length = laid.length := by
 unfold layAt; simp; omega
theorem layAt_rng {laid : List Int} {i : Nat} {ys : List Int} (h : ∀ x ∈ laid, 0 ≤ x ∧ x ≤ 255) (hy : ∀ x ∈ ys, 0 ≤ x ∧ x ≤ 255) : ∀ x ∈ layAt laid i ys, 0 ≤ x ∧ x ≤ 255 := by
 intro x hx
 unfold layAt at hx
 simp only [List.mem_append] at hx
 rcases hx with hx | hx | hx
 · exact h x (List.mem_of_mem_take hx)
 · exact hy x hx
 · exact h x (List.mem_of_mem_drop hx)
theorem DkAt.relaid {w w' : World} {p bl : Nat} {v : Value} {bufs : List Buf} {laid laid' : List Int} {off fused : Bool} {left : Nat} (h : DkAt w p bl v bufs laid off fused left) (hl : laid'.length = laid.length) (hr : ∀ x ∈ laid', 0 ≤ x ∧ x ≤ 255) (hb : But bl w w')
 (hk : Row 5 w' bl laid') : DkAt w' p bl v bufs laid' off fused left := by
 have hpb := h.p_ne_bl
 refine ⟨?_, hk, owns_keep h.own (fun k e => ?_), fun f hf => ⟨(h.buf f hf).1.keep ?_, (h.buf f hf).2.1, by rw [hl]; exact (h.buf f hf).2.2⟩, hr, by rw [hl]; exact h.siz, h.lft⟩
 · have h1 := h.blk
   rw [hl]
   unfold Blk at *
   rw [hb.keeps hpb h1]; exact h1
 · obtain ⟨cs, hc⟩ := own_type h.own e
   exact hb.keeps (h.bl_ne_v e) hc
 · obtain ⟨cs, hc⟩ := (h.buf f hf).1.blk
   exact hb.keeps (h.buf f hf).2.1 hc
theorem step_copy_but {P : Program} {ops : Array Oper} {o : Oper} {a : Act} {w : World} {K : Act → World → Prop} {Q : Exit → Act → World → Prop} {E : Prop} (hgd : o.guard = none) (d s : Operand) (dT sT : TypeId)
 (ho : o.op = .call { callee := .builtin .copy, args := #[d, s], argTypes := #[dT, sT] }) (elem : TypeId) (hu : P.underlying dT = some (.slice elem)) (hsz : (P.info? elem).map (·.size) = some 1)
 (dLen dCap sLen sCap g off : Nat) (ad : Addr) (hd : a.eval d = .slice (some ⟨g, off, none⟩) dLen dCap) (hs : a.eval s = .slice (some ad) sLen sCap)
 (cur : List Value) (t : TypeId) (hg : w.heap[g]? = some (.cells cur.toArray t (0, 0))) (cs : List Value) (hn : cs.length = Nat.min sLen dLen)
 (hsrc : ∀ j v, cs[j]? = some v → w.cell? (ad.add j) = some v)
 (hfit : off + cs.length ≤ cur.length) (h1 : ∀ v ∈ cs, v.oneCell' = true)
 (h : ∀ w', Hid (w'.heap[g]? = some (.cells (splice cur off cs).toArray t (0, 0))) → But g w w' → K (a.put o.dst (goInt cs.length)) w') :
 if Region.wanted o (yielded ops a.tmps) = true then Oper.wp P o a w K Q else E := by
 have hw : Region.wanted o (yielded ops a.tmps) = true := by simp [Region.wanted, hgd]
 rw [if_pos hw]
 have hrun := run_copy_row (P := P) w dT sT o.type elem g off dLen dCap ad sLen sCap cur.toArray t cs hu hsz hg hn hsrc (by simpa using hfit) h1
 unfold Oper.wp
 simp [execOp, ho, resolve, invoke, builtin, hd, hs, hrun, Result.andThen]
 exact h _ (show _ = _ by simpa [splice] using setRow_heap w g _ _ t _ hg) ((But.refl g w).setRow _)
section
variable {p bl : Nat} {v : Value} {bufs : List Buf} {laid : List Int} {off fused : Bool} {left : Nat}
set_option maxHeartbeats 4000000 in
theorem lay_run (f : Buf) (n : Int) (w : World) (hD : DkAt w p bl v bufs laid off fused left) (hf : BufAt w f) (hne : f.blk ≠ bl) (hat : 256 * f.at' + 256 ≤ laid.length) :
 Calls Tryd.prog 91 #[.pointer (some ⟨p, 0, none⟩), .agg #[.int .i64 (f.at' : Int), f.slice], .int .i64 n] w fun e w' =>
  (∃ v, e = .returned v) ∧ DkAt w' p bl v bufs (layAt laid f.at' (f.xs.take (clamp n))) off fused left ∧ But bl w w' := by
 unfold Buf.slice
 have hlen := hf.len
 rw [hlen]
 go_enter Tryd.func91, Tryd.ntmps91
 go_wp2
 obtain ⟨W, hW⟩ : ∃ W, W = w.alloc (Obj.cells #[Value.int IntKind.i64 (f.at' : Int), Value.slice (some ⟨f.blk, 0, none⟩) 256 f.cap] 159) := ⟨_, rfl⟩
 have hbW : Below w.heap.size w W := by rw [hW]; exact (Below.refl _ _).alloc (Nat.le_refl _) _
 have hc0 : W.cell? ⟨w.heap.size, 0, none⟩ = some (.int .i64 (f.at' : Int)) := by rw [hW]; simp
 have hc1 : W.cell? ⟨w.heap.size, 1, none⟩ = some (.slice (some ⟨f.blk, 0, none⟩) 256 f.cap) := by rw [hW]; simp
 have hDW := hD.stays hbW
 have hHb : w.heap.size ≠ bl := by have := hD.row.lt; omega
 obtain ⟨H, hH⟩ : ∃ H, H = w.heap.size := ⟨_, rfl⟩
 rw [← hW]
 rw [← hH] at hc0 hc1 hHb ⊢
 clear hW hH
 have hHlt : H < W.drew.heap.size := World.block_lt_of_cell? W _ hc0
 have hrow : W.drew.heap[bl]? = some (.cells (laid.map (Value.int .u8)).toArray 5 (0, 0)) := hDW.row
 have hBW : Bs W.drew (some ⟨f.blk, 0, none⟩) f.cap f.xs := hf.bs.stays hbW.drew
 have hT : ∀ m, m ≤ 256 → Bs W.drew (some ⟨f.blk, 0, none⟩) f.cap (f.xs.take m) := fun m hm => (hBW.upto (P := Tryd.prog) 43 5 Tryd.underlying43 (by kernel_rfl) (by kernel_rfl) m (by omega)).2
 have hsrc : ∀ m, m ≤ 256 → ∀ j u, ((f.xs.take m).map (Value.int .u8))[j]? = some u → W.drew.cell? ((⟨f.blk, 0, none⟩ : Addr).add j) = some u := fun m hm => by
  rcases (hT m hm).lay with h0 | ⟨b, o, ha, hc⟩
  · rw [h0]; simp
  · simp at ha
    obtain ⟨rfl, rfl⟩ := ha
    exact Bs.srcCells hc
 have hlm : ∀ m, m ≤ 256 → ((f.xs.take m).map (Value.int .u8)).length = Nat.min m 256 := fun m hm => by simp [hlen]
 have hfit : ∀ m, m ≤ 256 → 256 * f.at' + ((f.xs.take m).map (Value.int .u8)).length ≤ (laid.map (Value.int .u8)).length := fun m hm => by simp; omega
 have hend : ∀ m, m ≤ 256 → clamp n = m → ∀ w4, Hid (w4.heap[bl]? = some (.cells (splice (laid.map (Value.int .u8)) (256 * f.at') ((f.xs.take m).map (Value.int .u8))).toArray 5 (0, 0))) → But bl W.drew w4 →
  DkAt w4 p bl v bufs (layAt laid f.at' (f.xs.take (clamp n))) off fused left ∧ But bl w w4 := fun m hm hc w4 h4 hb4 => by
  have hl : (f.xs.take m).length ≤ 256 := by simp; omega
  refine ⟨hDW.drew.relaid (layAt_length (by rw [hc]; omega)) (layAt_rng hD.rng (fun x hx => hf.bs.rng x (List.mem_of_mem_take hx))) hb4 ?_, (But.of_below (hbW.drew)).trans hb4⟩
  have := h4.out
  unfold Row
  rw [this, hc]
  simp [splice, layAt, List.map_take, List.map_drop]
 rcases (by omega : n < 0 ∨ (0 ≤ n ∧ n ≤ 256) ∨ 256 < n) with hn | ⟨hn1, hn2⟩ | hn
 · have hcl : clamp n = 0 := by unfold clamp; omega
   go_region_held_law (fun w' => w'.cell? ⟨H, 0, none⟩ = some (.int .i64 (f.at' : Int)) ∧ w'.cell? ⟨H, 1, none⟩ = some (.slice (some ⟨f.blk, 0, none⟩) 256 f.cap)) (first | go_keep | exact ⟨(World.cell?_of_block (hb4.block _ hHb hHlt)).trans hc0, (World.cell?_of_block (hb4.block _ hHb hHlt)).trans hc1⟩)
    (first
        | (go_at_call 93; refine (sector_run f.at' _ hDW.drew hat).mono ?_; rintro e w' ⟨rfl, rfl⟩)
        | (refine step_copy_but rfl (.tmp 9) (.tmp 15) 43 43 rfl 5 Tryd.underlying43 (by kernel_rfl) 256 (laid.length - 256 * f.at') 0 f.cap bl (256 * f.at') ⟨f.blk, 0, none⟩ rfl rfl (laid.map (Value.int .u8)) 5 hrow ((f.xs.take 0).map (Value.int .u8)) (hlm _ (by omega)) (hsrc _ (by omega)) (hfit _ (by omega)) (int_oneCell _ _) ?_; intro w4 h4 hb4))
   all_goals (go_end0; exact ⟨⟨_, rfl⟩, hend _ (by omega) hcl _ h4 hb4⟩)
 · obtain ⟨m, rfl⟩ : ∃ m : Nat, n = (m : Int) := ⟨n.toNat, by omega⟩
   have hm : m ≤ 256 := by omega
   have hcap : (m : Int) ≤ (f.cap : Int) := by have := hf.bs.cap; omega
   have hcl : clamp (m : Int) = m := by unfold clamp; omega
   go_region_held_law (fun w' => w'.cell? ⟨H, 0, none⟩ = some (.int .i64 (f.at' : Int)) ∧ w'.cell? ⟨H, 1, none⟩ = some (.slice (some ⟨f.blk, 0, none⟩) 256 f.cap)) (first | go_keep | exact ⟨(World.cell?_of_block (hb4.block _ hHb hHlt)).trans hc0, (World.cell?_of_block (hb4.block _ hHb hHlt)).trans hc1⟩)
    (first
        | (go_at_call 93; refine (sector_run f.at' _ hDW.drew hat).mono ?_; rintro e w' ⟨rfl, rfl⟩)
        | (refine step_copy_but rfl (.tmp 9) (.tmp 15) 43 43 rfl 5 Tryd.underlying43 (by kernel_rfl) 256 (laid.length - 256 * f.at') m f.cap bl (256 * f.at') ⟨f.blk, 0, none⟩ rfl rfl (laid.map (Value.int .u8)) 5 hrow ((f.xs.take m).map (Value.int .u8)) (hlm _ hm) (hsrc _ hm) (hfit _ hm) (int_oneCell _ _) ?_; intro w4 h4 hb4))
   all_goals (go_end0; exact ⟨⟨_, rfl⟩, hend _ hm hcl _ h4 hb4⟩)
 · have hcl : clamp n = 256 := by unfold clamp; omega
   have hcap : (256 : Int) ≤ (f.cap : Int) := by have := hf.bs.cap; omega
   go_region_held_law (fun w' => w'.cell? ⟨H, 0, none⟩ = some (.int .i64 (f.at' : Int)) ∧ w'.cell? ⟨H, 1, none⟩ = some (.slice (some ⟨f.blk, 0, none⟩) 256 f.cap)) (first | go_keep | exact ⟨(World.cell?_of_block (hb4.block _ hHb hHlt)).trans hc0, (World.cell?_of_block (hb4.block _ hHb hHlt)).trans hc1⟩)
    (first
        | (go_at_call 93; refine (sector_run f.at' _ hDW.drew hat).mono ?_; rintro e w' ⟨rfl, rfl⟩)
        | (refine step_copy_but rfl (.tmp 9) (.tmp 15) 43 43 rfl 5 Tryd.underlying43 (by kernel_rfl) 256 (laid.length - 256 * f.at') 256 f.cap bl (256 * f.at') ⟨f.blk, 0, none⟩ rfl rfl (laid.map (Value.int .u8)) 5 hrow ((f.xs.take 256).map (Value.int .u8)) (hlm _ (by omega)) (hsrc _ (by omega)) (hfit _ (by omega)) (int_oneCell _ _) ?_; intro w4 h4 hb4))
   all_goals (go_end0; exact ⟨⟨_, rfl⟩, hend _ (by omega) hcl _ h4 hb4⟩)
end
end Go.Proofs.YthbldjnpnligpaaDoor

/-
 Package disk: Flush.
-/

namespace Go.Proofs.YthbldjnpnligpaaDoor
set_option linter.unusedSimpArgs false
set_option linter.unusedVariables false
set_option maxRecDepth 100000
open Go.RowKit
attribute [local go_sem] Oper.semAt_some wide_fn wide_depth round_fn round_depth
structure Frm (F : Nat → Prop) (w w' : World) : Prop where
 os : w'.os = w.os
 tape : w'.tape = w.tape
 output : w'.output = w.output
 size : w.heap.size ≤ w'.heap.size
 block : ∀ k, ¬ F k → k < w.heap.size → w'.heap[k]? = w.heap[k]?
theorem Frm.refl (F : Nat → Prop) (w : World) : Frm F w w := ⟨rfl, rfl, rfl, Nat.le_refl _, fun _ _ _ => rfl⟩
theorem Frm.trans {F : Nat → Prop} {a b c : World} (h : Frm F a b) (k : Frm F b c) : Frm F a c :=
 ⟨k.os.trans h.os, k.tape.trans h.tape, k.output.trans h.output, Nat.le_trans h.size k.size, fun i hi hl => (k.block i hi (Nat.lt_of_lt_of_le hl h.size)).trans (h.block i hi hl)⟩
theorem Frm.of_below {F : Nat → Prop} {a b : World} (h : Below a.heap.size a b) : Frm F a b := ⟨h.os, h.tape, h.output, h.size, fun k _ hl => h.block k hl⟩
theorem Frm.of_but {F : Nat → Prop} {g : Nat} {a b : World} (h : But g a b) (hg : F g) : Frm F a b := ⟨h.os, h.tape, h.output, h.size, fun k hk hl => h.block k (fun e => hk (e ▸ hg)) hl⟩
theorem Frm.mono {F G : Nat → Prop} {a b : World} (h : Frm F a b) (hg : ∀ k, F k → G k) : Frm G a b := ⟨h.os, h.tape, h.output, h.size, fun k hk hl => h.block k (fun e => hk (hg k e)) hl⟩
theorem Frm.drew {F : Nat → Prop} {a b : World} (h : Frm F a b) : Frm F a b.drew := ⟨h.os, h.tape, h.output, h.size, h.block⟩
theorem Frm.aside {F : Nat → Prop} {B : Nat} {a b c : World} (h : Frm F a b) (hA : Aside B b c) (hB : a.heap.size ≤ B) : Frm F a c :=
 ⟨hA.os.trans h.os, hA.tape.trans h.tape, hA.output.trans h.output, Nat.le_trans h.size hA.size, fun i hi hl => (hA.block i (Nat.lt_of_lt_of_le hl h.size) (.inl (by omega))).trans (h.block i hi hl)⟩
theorem Frm.below {F : Nat → Prop} {a b : World} (h : Frm F a b) {B : Nat} (hB : B ≤ a.heap.size) (hF : ∀ k, F k → B ≤ k) : Below B a b := ⟨h.os, h.tape, h.output, h.size, fun k hk => h.block k (fun e => by have := hF k e; omega) (by omega)⟩
def Two (p bl : Nat) (k : Nat) : Prop := k = p ∨ k = bl
section
variable {p bl : Nat} {v : Value} {bufs : List Buf} {laid : List Int} {off fused : Bool} {left : Nat}
theorem DkAt.cells {w : World} (h : DkAt w p bl v bufs laid off fused left) : ∀ k, Foot p bl v bufs k → ∃ o : Obj, w.heap[k]? = some o ∧ o.isCells = true := by
 rintro k (rfl | rfl | e | ⟨f, hf, rfl⟩)
 · exact ⟨_, h.blk, rfl⟩
 · exact ⟨_, h.row, rfl⟩
 · obtain ⟨cs, hc⟩ := own_type h.own e
   exact ⟨_, hc, rfl⟩
 · obtain ⟨cs, hc⟩ := (h.buf f hf).1.blk
   exact ⟨_, hc, rfl⟩
theorem DkAt.aside {w w' : World} {B : Nat} (h : DkAt w p bl v bufs laid off fused left) (hA : Aside B w w') : DkAt w' p bl v bufs laid off fused left :=
 h.keep (fun k hk => hA.block k (h.foot_lt k hk) (.inr (h.cells k hk)))
theorem DkAt.nd {w : World} (h : DkAt w p bl v bufs laid off fused left) : Nd p v bufs w := ⟨h.fields.2.1, h.own⟩
theorem keeps_but {B g : Nat} {w w' : World} (h : But g w w') (hg : g < B) : KeepsFrom B w w' := ⟨h.size, fun k o hB hk _ => (h.block k (by omega) (Array.getElem?_eq_some_iff.1 hk).1).trans hk⟩
def laidTo (laid : List Int) (bufs : List Buf) (keep : Nat → Int) (i : Nat) : List Int := (List.range i).foldl (fun l k => layAt l (bufs.getD k noBuf).at' ((bufs.getD k noBuf).xs.take (clamp (keep k)))) laid
theorem laidTo_succ (laid : List Int) (bufs : List Buf) (keep : Nat → Int) (i : Nat) : laidTo laid bufs keep (i + 1) = layAt (laidTo laid bufs keep i) (bufs.getD i noBuf).at' ((bufs.getD i noBuf).xs.take (clamp (keep i))) := by
 simp [laidTo, List.range_succ]
theorem getD_mem {bufs : List Buf} {i : Nat} (h : i < bufs.length) : bufs.getD i noBuf ∈ bufs := by
 simp [List.getD, h]
set_option maxRecDepth 100000 in
set_option maxHeartbeats 4000000 in
theorem flush_off (w : World) (hD : DkAt w p bl v bufs laid true fused left) :
 Calls Tryd.prog 34 #[.pointer (some ⟨p, 0, none⟩)] w fun e w' => e = .returned (.int .i64 8) ∧ Below w.heap.size w w' := by
 refine (callsIn_wide (n := 0)).1 (callsIn_of_wp_marks Tryd.func34 rfl trivial ?_ rfl)
 simp only [Tryd.ntmps34, List.size_toArray, List.length_cons, List.length_nil, Nat.reduceAdd, Nat.reduceSub, Array.replicate_succ, Array.replicate_zero, List.push_toArray, List.append_toArray, List.nil_append, List.cons_append]
 have hD1 := hD.stays ((Below.refl _ _).alloc (Nat.le_refl _) (.cells #[.pointer (some ⟨p, 0, none⟩)] 24))
 gi_wp2_with (first
  | (gi_at_call 88; refine (callsIn_wide.2 (down_run _ hD1)).mono ?_; rintro e w' ⟨rfl, rfl⟩))
 exact ⟨_, results_tmp rfl _ _ _, rfl, (Below.refl _ _).alloc (Nat.le_refl _) _⟩
set_option maxRecDepth 100000 in
set_option maxHeartbeats 4000000 in
theorem flush_blown (w : World) (hD : DkAt w p bl v bufs laid false true 0) :
 Calls Tryd.prog 34 #[.pointer (some ⟨p, 0, none⟩)] w fun e w' => e = .returned (.int .i64 8) ∧ DkAt w' p bl v bufs laid true true 0 ∧ Frm (Two p bl) w w' := by
 refine (callsIn_wide (n := 0)).1 (callsIn_of_wp_marks Tryd.func34 rfl trivial ?_ rfl)
 simp only [Tryd.ntmps34, List.size_toArray, List.length_cons, List.length_nil, Nat.reduceAdd, Nat.reduceSub, Array.replicate_succ, Array.replicate_zero, List.push_toArray, List.append_toArray, List.nil_append, List.cons_append]
 have hb1 : Below w.heap.size w (w.alloc (.cells #[.pointer (some ⟨p, 0, none⟩)] 24)) := (Below.refl _ _).alloc (Nat.le_refl _) _
 have hD1 := hD.stays hb1
 gi_wp2_with (first
  | (gi_at_call 88; refine (callsIn_wide.2 (down_run _ hD1)).mono ?_; rintro e w' ⟨rfl, rfl⟩)
  | (gi_at_call 89; refine (callsIn_wide.2 (spend_run _ hD1)).mono ?_; rintro e w2 ⟨rfl, hD2, hb2⟩; rw [show may true 0 = false from rfl] at hD2 ⊢))
 exact ⟨_, results_tmp rfl _ _ _, rfl, hD2, (Frm.of_below hb1).trans (Frm.of_but hb2 (.inl rfl))⟩
set_option maxRecDepth 100000 in
set_option maxHeartbeats 4000000 in
theorem flush_done (w : World) (hD : DkAt w p bl v bufs laid false fused left) (hm : may fused left = true) (hlen : bufs.length ≤ 1000000) :
 Calls Tryd.prog 34 #[.pointer (some ⟨p, 0, none⟩)] w fun e w' => e = .returned (.int .i64 0) ∧ DkAt w' p bl (.slice none 0 0) [] (laidTo laid bufs (fun _ => 256) bufs.length) false fused (if fused then left - 1 else left) ∧ Frm (Two p bl) w w' := by
 refine (callsIn_wide (n := 0)).1 (callsIn_of_wp_marks Tryd.func34 rfl trivial ?_ rfl)
 simp only [Tryd.ntmps34, List.size_toArray, List.length_cons, List.length_nil, Nat.reduceAdd, Nat.reduceSub, Array.replicate_succ, Array.replicate_zero, List.push_toArray, List.append_toArray, List.nil_append, List.cons_append]
 have hb1 : Below w.heap.size w (w.alloc (.cells #[.pointer (some ⟨p, 0, none⟩)] 24)) := (Below.refl _ _).alloc (Nat.le_refl _) _
 have hD1 := hD.stays hb1
 have hpw : w.heap.size ≠ p := by have := hD.blk.lt; omega
 have hpl : w.heap.size ≠ bl := by have := hD.row.lt; omega
 have hbx : (w.alloc (.cells #[.pointer (some ⟨p, 0, none⟩)] 24)).cell? ⟨w.heap.size, 0, none⟩ = some (.pointer (some ⟨p, 0, none⟩)) := by simp
 obtain ⟨left', hleft⟩ : ∃ l, l = (if fused then left - 1 else left) := ⟨_, rfl⟩
 rw [← hleft]
 gi_wp2_with (first
  | (gi_at_call 88; refine (callsIn_wide.2 (down_run _ hD1)).mono ?_; rintro e w' ⟨rfl, rfl⟩)
  | (gi_at_call 89; refine (callsIn_wide.2 (spend_run _ hD1)).mono ?_; rintro e w2 ⟨rfl, hD2, hb2⟩; rw [hm] at hD2 ⊢; rw [← hleft] at hD2; have hbx2 : w2.cell? ⟨w.heap.size, 0, none⟩ = some (.pointer (some ⟨p, 0, none⟩)) := (World.cell?_of_block (hb2.block _ hpw (by simp))).trans hbx))
 have hs2 : w.heap.size ≤ w2.heap.size := by have := hb2.size; simp at this; omega
 have hF2 : Frm (Two p bl) w w2 := (Frm.of_below hb1).trans (Frm.of_but hb2 (.inl rfl))
 refine wpIn_range_bound 90 (.pointer (some ⟨p, 0, none⟩)) rfl (enters_of Tryd.func90 (by kernel_rfl) rfl) bufs.length (fun i => #[.int .i64 (i : Int), (bufs.getD i noBuf).agg]) (Nd p v bufs) (fun W h => oldest_iter p v bufs hlen W h) (fun _ => rfl)
  (fun i W => DkAt W p bl v bufs (laidTo laid bufs (fun _ => 256) i) false fused left' ∧ Frm (Two p bl) w W ∧ W.cell? ⟨w.heap.size, 0, none⟩ = some (.pointer (some ⟨p, 0, none⟩))) (fun _ _ => False)
  (fun i W h => h.1.nd) (fun i W W' h hA => ⟨h.1.aside hA, h.2.1.aside hA hs2, hA.cell h.2.2⟩) (fun _ _ _ h _ => h) ⟨hD2, hF2, hbx2⟩ ?round ?done ?stop
 case round =>
  rintro l i W K hi ⟨hDi, hFi, hbxi⟩ hK
  obtain ⟨f, hfe⟩ : ∃ f, f = bufs.getD i noBuf := ⟨_, rfl⟩
  have hfm : f ∈ bufs := hfe ▸ getD_mem hi
  have hf := hDi.buf f hfm
  rw [laidTo_succ, ← hfe] at hK
  dsimp only
  rw [← hfe]
  unfold Buf.agg Buf.slice
  clear hfe
  gi_wp2
  refine hK _ _ ((KeepsOthers.alloc _ _).from _) (fun w₃ hA => ?_)
  have hba : Below W.heap.size W (W.alloc (.cells #[.int .i64 (f.at' : Int), .slice (some ⟨f.blk, 0, none⟩) f.xs.length f.cap] 159)) := (Below.refl _ _).alloc (Nat.le_refl _) _
  have hD3 := (hDi.stays hba).aside hA
  have hc0 : w₃.cell? ⟨W.heap.size, 0, none⟩ = some (.int .i64 (f.at' : Int)) := hA.cell (by simp)
  have hc1 : w₃.cell? ⟨W.heap.size, 1, none⟩ = some (.slice (some ⟨f.blk, 0, none⟩) f.xs.length f.cap) := hA.cell (by simp)
  have hbx3 := hA.cell (hba.cell (World.block_lt_of_cell? _ _ hbxi) ▸ hbxi)
  have hF3 := (hFi.trans (Frm.of_below hba)).aside hA hs2
  have hcall := lay_run f 256 w₃ hD3 (hD3.buf f hfm).1 hf.2.1 hf.2.2
  unfold Buf.slice at hcall
  gi_wp2_with (gi_at_call 91; go_loud (refine (CallsIn.inRound l (callsIn_wide.2 hcall)).mono ?_; rintro e w4 ⟨⟨_, rfl⟩, hD4, hb4⟩))
  have hbl : bl < w2.heap.size := hD2.row.lt
  exact ⟨keeps_but hb4 hbl, hD4, hF3.trans (Frm.of_but hb4 (.inr rfl)), (World.cell?_of_block (hb4.block _ hpl (World.block_lt_of_cell? _ _ hbx3))).trans hbx3⟩
 case done =>
  rintro W ⟨hDW, hFW, hbxW⟩ hK
  have hcv := hDW.fields.2.1
  have hfv := hDW.free 1
  gi_wp2
  have hK2 := (KeepsOthers.setCell W ⟨p, 1, none⟩ (.slice none 0 0)).same _ _ hK rfl
  refine ⟨by simp, .inl ⟨_, _, rfl, run_takeDeferred hK2, ?_⟩⟩
  have hA := Aside.put (B := w2.heap.size) (.deferred none) hK2 (Nat.le_refl _) rfl
  have hbs : But p W (W.setCell ⟨p, 1, none⟩ (.slice none 0 0)) := (But.refl _ _).setCell _ _
  exact ⟨_, results_tmp rfl _ _ _, rfl, (hDW.clear hDW.lft hbs (hDW.blk.set 1 _)).aside hA, (hFW.trans (Frm.of_but hbs (.inl rfl))).aside hA hs2⟩
 case stop =>
  rintro c W h _
  exact h.elim
end
end Go.Proofs.YthbldjnpnligpaaDoor
