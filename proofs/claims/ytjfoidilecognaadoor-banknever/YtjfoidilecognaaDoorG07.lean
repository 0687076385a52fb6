/-
  Package disk: the fuse; bytes.Clone; a disk whose fields change.
-/
import Derived.Test.YtjfoidilecognaaDoorG06
import Derived.Deep.RegionHeldLaw
namespace Go.Proofs.YtjfoidilecognaaDoor
set_option linter.unusedSimpArgs false
set_option linter.unusedVariables false
set_option maxRecDepth 100000
open Go.RowKit

theorem But.keeps {g : Nat} {w w' : World} (hb : But g w w') {k : Nat} (hne : k ≠ g) {o : Obj} (h : w.heap[k]? = some o) : w'.heap[k]? = w.heap[k]? := hb.block k hne (Array.getElem?_eq_some_iff.1 h).1

section
variable {w w' : World} {p bl : Nat} {v : Value} {bufs : List Buf} {laid : List Int} {off fused : Bool} {left : Nat}

/-- A disk whose own block has other flags. -/
theorem DkAt.flags (h : DkAt w p bl v bufs laid off fused left) {off' fused' : Bool} {left' : Nat} (hl : left' < 9223372036854775808) (hb : But p w w')
    (hk : Blk 101 w' p [.slice (some ⟨bl, 0, none⟩) laid.length laid.length, v, .bool off', .bool fused', .int .i64 (left' : Int)]) : DkAt w' p bl v bufs laid off' fused' left' := by
  have hpb := h.p_ne_bl
  refine ⟨hk, ?_, owns_keep h.own (fun k e => ?_), fun f hf => ⟨(h.buf f hf).1.keep ?_, (h.buf f hf).2⟩, h.rng, h.siz, hl⟩
  · have h1 := h.row
    unfold Row at *
    rw [hb.keeps (Ne.symm hpb) h1]; exact h1
  · obtain ⟨cs, hc⟩ := own_type h.own e
    exact hb.keeps (h.p_ne_v e) hc
  · obtain ⟨cs, hc⟩ := (h.buf f hf).1.blk
    exact hb.keeps (h.p_ne_buf hf) hc

/-- A disk on which nothing waits any more. -/
theorem DkAt.clear (h : DkAt w p bl v bufs laid off fused left) {off' fused' : Bool} {left' : Nat} (hl : left' < 9223372036854775808) (hb : But p w w')
    (hk : Blk 101 w' p [.slice (some ⟨bl, 0, none⟩) laid.length laid.length, .slice none 0 0, .bool off', .bool fused', .int .i64 (left' : Int)]) : DkAt w' p bl (.slice none 0 0) [] laid off' fused' left' := by
  have hpb := h.p_ne_bl
  refine ⟨hk, ?_, World.ownsRow_nil _ _ _ _, fun f hf => by simp at hf, h.rng, h.siz, hl⟩
  have h1 := h.row
  unfold Row at *
  rw [hb.keeps (Ne.symm hpb) h1]; exact h1

theorem DkAt.free (h : DkAt w p bl v bufs laid off fused left) (k : Nat) : w.frozen? ⟨p, k, none⟩ = false := h.blk.free k

end

section
variable {p bl : Nat} {v : Value} {bufs : List Buf} {laid : List Int} {off fused : Bool} {left : Nat}

/-- May a call be done? -/
def may (fused : Bool) (left : Nat) : Bool := !(fused && left == 0)

theorem spend_run (w : World) (hD : DkAt w p bl v bufs laid false fused left) :
    Calls Tryd.prog 61 #[.pointer (some ⟨p, 0, none⟩)] w fun e w' => e = .returned (.bool (may fused left)) ∧ DkAt w' p bl v bufs laid (!may fused left) fused (if fused then left - 1 else left) ∧ But p w w' := by
  obtain ⟨h0, h1, h2, h3, h4⟩ := hD.fields
  have f2 := hD.free 2
  have f4 := hD.free 4
  have hl := hD.lft
  cases fused with
  | false =>
    go_enter Tryd.func61, Tryd.ntmps61
    go_wp2
    go_ret
    exact ⟨rfl, hD, But.refl _ _⟩
  | true =>
    by_cases hz : left = 0
    · subst hz
      go_enter Tryd.func61, Tryd.ntmps61
      go_wp2
      go_ret
      exact ⟨rfl, hD.flags (by omega) ((But.refl _ _).setCell _ _) (hD.blk.set 2 _), (But.refl _ _).setCell _ _⟩
    · have hz' : (((left : Nat) : Int) == 0) = false := by simp; omega
      have e1 : (left : Int) - 1 = ((left - 1 : Nat) : Int) := by omega
      go_enter Tryd.func61, Tryd.ntmps61
      go_wp2
      go_ret
      have hm : may true left = true := by simp [may, hz]
      rw [hm]
      exact ⟨rfl, hD.flags (by omega) ((But.refl _ _).setCell _ _) (e1 ▸ hD.blk.set 4 _), (But.refl _ _).setCell _ _⟩

theorem eql_nil (ad : Addr) (n c : Nat) (w : World) : (binOp .eql 43 (.slice (some ad) n c) (.slice none 0 0)).run Tryd.prog w = .ok (.bool false) w := by
  simp only [binOp]
  simp [run_equal_slice_nil w 43 5 (some ad) n c Tryd.underlying43]

/-- bytes.Clone of bytes that are somewhere. -/
theorem clone_run (ad : Addr) (c : Nat) (xs : List Int) (w : World) (hB : Bs w (some ad) c xs) (hx : xs.length ≤ 1000000) (hx0 : 0 < xs.length) :
    Calls Tryd.prog 42 #[.slice (some ad) xs.length c] w fun e w' => ∃ g cap, e = .returned (.slice (some ⟨g, 0, none⟩) xs.length cap) ∧ w'.ownsRow w.heap.size 5 1 (.slice (some ⟨g, 0, none⟩) xs.length cap) xs.length (xs.map (Value.int .u8)) ∧ Below w.heap.size w w' := by
  have hi : (Tryd.prog.info? 5).map (fun i => (i.zero, i.size, i.bytes)) = some (some (.int .u8 0), 1, 1) := by kernel_rfl
  obtain ⟨i0, hi0, hz0, hz1, hz2⟩ := info_parts hi
  have hnil := eql_nil ad xs.length c
  go_enter Tryd.func42, Tryd.ntmps42
  go_wp2_with (at_builtin; go_must (refine wpList_append_bytes (w0 := w) (by rfl) (.tmp 5) (.tmp 6) 43 (by rfl) w.heap.size 5 i0 Tryd.underlying43 hi0 hz0 hz1 hz2 _ [] (by rfl) (World.ownsRow_made w #[] 0 (Nat.le_refl _) (by decide) rfl) (some ad) xs.length c xs (by rfl) (by rfl) (hB.stays ((Below.refl _ _).alloc (Nat.le_refl _) _)) (by simp; omega) (by simp) ((Below.refl _ _).alloc (Nat.le_refl _) _) ?_); intro v1 w1 hown1 hb1)
  go_ret
  rw [List.nil_append] at hown1
  rcases hown1.2 with ⟨_, h0⟩ | ⟨g, cap, cur, rfl, _⟩
  · omega
  · exact ⟨g, cap, rfl, hown1, hb1⟩

end

end Go.Proofs.YtjfoidilecognaaDoor

/-
  Package disk: the two iterators over the waiting writes.
-/

namespace Go.Proofs.YtjfoidilecognaaDoor
set_option linter.unusedSimpArgs false
set_option linter.unusedVariables false
set_option maxRecDepth 100000
open Go.RowKit
attribute [local go_sem] Oper.semAt_some

/-- What an iterator over the waiting writes needs. -/
def Nd (p : Nat) (v : Value) (bufs : List Buf) (W : World) : Prop := W.cell? ⟨p, 1, none⟩ = some v ∧ W.ownsRow 0 126 2 v bufs.length (bufs.flatMap Buf.cells)

def noBuf : Buf := ⟨0, [], 0, 0⟩
def Buf.agg (f : Buf) : Value := .agg #[.int .i64 (f.at' : Int), f.slice]

theorem flatMap_two {bufs : List Buf} {k : Nat} (hk : k < bufs.length) : (bufs.flatMap Buf.cells)[2 * k]? = some (.int .i64 ((bufs.getD k noBuf).at' : Int)) ∧ (bufs.flatMap Buf.cells)[2 * k + 1]? = some (bufs.getD k noBuf).slice := by
  induction bufs generalizing k with
  | nil => simp at hk
  | cons f r ih =>
    cases k with
    | zero => simp [Buf.cells]
    | succ k =>
      have := ih (k := k) (by simpa using hk)
      have e1 : 2 * (k + 1) = 2 * k + 2 := by omega
      rw [e1]
      simpa [Buf.cells] using this

theorem Nd.at {p : Nat} {v : Value} {bufs : List Buf} {W : World} (h : Nd p v bufs W) {k : Nat} (hk : k < bufs.length) :
    ∃ g cap, v = .slice (some ⟨g, 0, none⟩) bufs.length cap ∧ W.cell? ⟨g, 2 * k, none⟩ = some (.int .i64 ((bufs.getD k noBuf).at' : Int)) ∧ W.cell? ⟨g, 2 * k + 1, none⟩ = some (bufs.getD k noBuf).slice := by
  have hown := h.2
  rcases h.2.2 with ⟨_, h0⟩ | ⟨g, cap, cur, rfl, _⟩
  · omega
  · obtain ⟨h1, h2⟩ := flatMap_two hk
    exact ⟨g, cap, rfl, (hown.cellAt (2 * k) (by omega)).trans h1, (hown.cellAt (2 * k + 1) (by omega)).trans h2⟩

theorem Nd.slice {p : Nat} {v : Value} {bufs : List Buf} {W : World} (h : Nd p v bufs W) : ∃ a c, v = .slice a bufs.length c := by
  rcases h.2.2 with ⟨rfl, h0⟩ | ⟨g, cap, cur, rfl, _⟩
  · exact ⟨none, 0, by rw [h0]⟩
  · exact ⟨_, _, rfl⟩

set_option maxRecDepth 100000 in
set_option maxHeartbeats 4000000 in
theorem oldest_iter (p : Nat) (v : Value) (bufs : List Buf) (hlen : bufs.length ≤ 1000000) (W : World) (hN : Nd p v bufs W) :
    Iter Tryd.prog 58 (.pointer (some ⟨p, 0, none⟩)) bufs.length (fun i => #[.int .i64 (i : Int), (bufs.getD i noBuf).agg]) (Nd p v bufs) W := by
  intro l J Jx hJN hJB hY h0
  obtain ⟨a, c, rfl⟩ := hN.slice
  have hc := hN.1
  refine callsIn_of_wp Tryd.func58 rfl trivial ?_ rfl
  simp only [Tryd.ntmps58, List.size_toArray, List.length_cons, List.length_nil, Nat.reduceAdd, Nat.reduceSub, Array.replicate_succ, Array.replicate_zero, List.push_toArray, List.append_toArray, List.nil_append, List.cons_append]
  gi_wp2
  gi_loopw [11] (fun i wr => ∃ k : Nat, k ≤ bufs.length ∧ i = .int .i64 k ∧ J k wr) (fun i _ => bufs.length - (intOf i).toNat)
  case atStart => exact ⟨0, Nat.zero_le _, rfl, h0⟩
  case round =>
    obtain ⟨k, hk, rfl, hJs⟩ := hrel
    by_cases hlt : k < bufs.length
    · obtain ⟨g, cap, hv, hc0, hc1⟩ := (hJN k wr hJs).at hlt
      simp only [Value.slice.injEq] at hv
      obtain ⟨rfl, _, rfl⟩ := hv
      have hlt' : (k : Int) < (bufs.length : Int) := by omega
      have hJ1 : J k (wr.alloc (.cells #[.int .i64 ((bufs.getD k noBuf).at' : Int), (bufs.getD k noBuf).slice] 126)) := hJB k _ _ hJs ((Below.refl _ _).alloc (Nat.le_refl _) _)
      obtain ⟨fn, tmps, assign, body, hy, hR⟩ := hY k _ hlt hJ1
      dsimp only [Buf.agg] at hy
      obtain ⟨XB, XL, XC, hX⟩ : ∃ XB XL XC, (bufs.getD k noBuf).slice = .slice (some ⟨XB, 0, none⟩) XL XC := ⟨_, _, _, rfl⟩
      rw [hX] at hc1 hJ1 hy hR
      generalize hT : ((bufs.getD k noBuf).at' : Int) = T at *
      have e2 : 2 * k = k * 2 := by omega
      rw [e2] at hc0 hc1
      gi_wp2
      refine ⟨rfl, hR.mono ?_⟩
      rintro e W3 (⟨rfl, hJ3⟩ | ⟨rfl, hJx3⟩)
      · gi_wp2
        go_roundw
        case rel => exact ⟨k + 1, by omega, by simp, hJ3⟩
        case measure => simp [intOf]; omega
      · gi_wp2
        refine bodyPost_ret (results_none rfl _ _ _) rfl ?_
        exact ⟨⟨_, rfl⟩, .inr hJx3⟩
    · obtain rfl : k = bufs.length := by omega
      gi_wp2
      go_end0
      exact ⟨⟨_, rfl⟩, .inl hJs⟩

set_option maxRecDepth 100000 in
set_option maxHeartbeats 4000000 in
theorem newest_iter (p : Nat) (v : Value) (bufs : List Buf) (hlen : bufs.length ≤ 1000000) (W : World) (hN : Nd p v bufs W) :
    Iter Tryd.prog 90 (.pointer (some ⟨p, 0, none⟩)) bufs.length (fun i => #[(bufs.getD (bufs.length - 1 - i) noBuf).agg]) (Nd p v bufs) W := by
  intro l J Jx hJN hJB hY h0
  obtain ⟨a, c, rfl⟩ := hN.slice
  have hc := hN.1
  refine callsIn_of_wp Tryd.func90 rfl trivial ?_ rfl
  simp only [Tryd.ntmps90, List.size_toArray, List.length_cons, List.length_nil, Nat.reduceAdd, Nat.reduceSub, Array.replicate_succ, Array.replicate_zero, List.push_toArray, List.append_toArray, List.nil_append, List.cons_append]
  gi_wp2
  gi_loopw [4] (fun i wr => ∃ j : Nat, j ≤ bufs.length ∧ i = .int .i64 ((bufs.length : Int) - 1 - j) ∧ J j wr) (fun i _ => (intOf i + 1).toNat)
  case atStart => exact ⟨0, Nat.zero_le _, by simp, h0⟩
  case round =>
    obtain ⟨j, hj, rfl, hJs⟩ := hrel
    by_cases hlt : j < bufs.length
    · obtain ⟨k, hk⟩ : ∃ k : Nat, k = bufs.length - 1 - j := ⟨_, rfl⟩
      have hkl : k < bufs.length := by omega
      have ek : (bufs.length : Int) - 1 - j = (k : Int) := by omega
      obtain ⟨g, cap, hv, hc0, hc1⟩ := (hJN j wr hJs).at hkl
      have hcp := (hJN j wr hJs).1
      simp only [Value.slice.injEq] at hv
      obtain ⟨rfl, _, rfl⟩ := hv
      have hlt' : (k : Int) < (bufs.length : Int) := by omega
      obtain ⟨fn, tmps, assign, body, hy, hR⟩ := hY j _ hlt hJs
      rw [← hk] at hy
      dsimp only [Buf.agg] at hy
      obtain ⟨XB, XL, XC, hX⟩ : ∃ XB XL XC, (bufs.getD k noBuf).slice = .slice (some ⟨XB, 0, none⟩) XL XC := ⟨_, _, _, rfl⟩
      rw [hX] at hc1 hy
      generalize hT : ((bufs.getD k noBuf).at' : Int) = T at *
      have e2 : 2 * k = k * 2 := by omega
      rw [e2] at hc0 hc1
      rw [ek]
      have HK : Hid (k = bufs.length - 1 - j) := hk
      clear hk ek
      gi_wp2
      refine ⟨rfl, hR.mono ?_⟩
      rintro e W3 (⟨rfl, hJ3⟩ | ⟨rfl, hJx3⟩)
      · gi_wp2
        go_roundw
        case rel => exact ⟨j + 1, by omega, by have := HK.out; congr 1; omega, hJ3⟩
        case measure => simp [intOf]
      · gi_wp2
        refine bodyPost_ret (results_none rfl _ _ _) rfl ?_
        exact ⟨⟨_, rfl⟩, .inr hJx3⟩
    · obtain rfl : j = bufs.length := by omega
      have ek : (bufs.length : Int) - 1 - bufs.length = -1 := by omega
      rw [ek]
      gi_wp2
      go_end0
      exact ⟨⟨_, rfl⟩, .inl hJs⟩

end Go.Proofs.YtjfoidilecognaaDoor

/-
  Package disk: a waiting write's first bytes are laid onto the disk.
-/

namespace Go.Proofs.YtjfoidilecognaaDoor
set_option linter.unusedSimpArgs false
set_option linter.unusedVariables false
set_option maxRecDepth 100000
open Go.RowKit

def clamp (n : Int) : Nat := (min (max n 0) 256).toNat
theorem clamp_le (n : Int) : clamp n ≤ 256 := by unfold clamp; omega

/-- Bytes over a sector's beginning. -/
def layAt (laid : List Int) (i : Nat) (ys : List Int) : List Int := laid.take (256 * i) ++ (ys ++ laid.drop (256 * i + ys.length))

theorem layAt_length {laid : List Int} {i : Nat} {ys : List Int} (h : 256 * i + ys.length ≤ laid.length) : (layAt laid i ys).length = laid.length := by
  unfold layAt; simp; omega

theorem layAt_rng {laid : List Int} {i : Nat} {ys : List Int} (h : ∀ x ∈ laid, 0 ≤ x ∧ x ≤ 255) (hy : ∀ x ∈ ys, 0 ≤ x ∧ x ≤ 255) : ∀ x ∈ layAt laid i ys, 0 ≤ x ∧ x ≤ 255 := by
  intro x hx
  unfold layAt at hx
  simp only [List.mem_append] at hx
  rcases hx with hx | hx | hx
  · exact h x (List.mem_of_mem_take hx)
  · exact hy x hx
  · exact h x (List.mem_of_mem_drop hx)

/-- A disk whose sectors' bytes are others. -/
theorem DkAt.relaid {w w' : World} {p bl : Nat} {v : Value} {bufs : List Buf} {laid laid' : List Int} {off fused : Bool} {left : Nat} (h : DkAt w p bl v bufs laid off fused left) (hl : laid'.length = laid.length) (hr : ∀ x ∈ laid', 0 ≤ x ∧ x ≤ 255) (hb : But bl w w')
    (hk : Row 5 w' bl laid') : DkAt w' p bl v bufs laid' off fused left := by
  have hpb := h.p_ne_bl
  refine ⟨?_, hk, owns_keep h.own (fun k e => ?_), fun f hf => ⟨(h.buf f hf).1.keep ?_, (h.buf f hf).2.1, by rw [hl]; exact (h.buf f hf).2.2⟩, hr, by rw [hl]; exact h.siz, h.lft⟩
  · have h1 := h.blk
    rw [hl]
    unfold Blk at *
    rw [hb.keeps hpb h1]; exact h1
  · obtain ⟨cs, hc⟩ := own_type h.own e
    exact hb.keeps (h.bl_ne_v e) hc
  · obtain ⟨cs, hc⟩ := (h.buf f hf).1.blk
    exact hb.keeps (h.buf f hf).2.1 hc

/-- copy into a block, as a step of a region that draws. -/
theorem step_copy_but {P : Program} {ops : Array Oper} {o : Oper} {a : Act} {w : World} {K : Act → World → Prop} {Q : Exit → Act → World → Prop} {E : Prop} (hgd : o.guard = none) (d s : Operand) (dT sT : TypeId)
    (ho : o.op = .call { callee := .builtin .copy, args := #[d, s], argTypes := #[dT, sT] }) (elem : TypeId) (hu : P.underlying dT = some (.slice elem)) (hsz : (P.info? elem).map (·.size) = some 1)
    (dLen dCap sLen sCap g off : Nat) (ad : Addr) (hd : a.eval d = .slice (some ⟨g, off, none⟩) dLen dCap) (hs : a.eval s = .slice (some ad) sLen sCap)
    (cur : List Value) (t : TypeId) (hg : w.heap[g]? = some (.cells cur.toArray t (0, 0))) (cs : List Value) (hn : cs.length = Nat.min sLen dLen)
    (hsrc : ∀ j v, cs[j]? = some v → w.cell? (ad.add j) = some v)
    (hfit : off + cs.length ≤ cur.length) (h1 : ∀ v ∈ cs, v.oneCell' = true)
    (h : ∀ w', Hid (w'.heap[g]? = some (.cells (splice cur off cs).toArray t (0, 0))) → But g w w' → K (a.put o.dst (goInt cs.length)) w') :
    if Region.wanted o (yielded ops a.tmps) = true then Oper.wp P o a w K Q else E := by
  have hw : Region.wanted o (yielded ops a.tmps) = true := by simp [Region.wanted, hgd]
  rw [if_pos hw]
  have hrun := run_copy_row (P := P) w dT sT o.type elem g off dLen dCap ad sLen sCap cur.toArray t cs hu hsz hg hn hsrc (by simpa using hfit) h1
  unfold Oper.wp
  simp [execOp, ho, resolve, invoke, builtin, hd, hs, hrun, Result.andThen]
  exact h _ (show _ = _ by simpa [splice] using setRow_heap w g _ _ t _ hg) ((But.refl g w).setRow _)

section
variable {p bl : Nat} {v : Value} {bufs : List Buf} {laid : List Int} {off fused : Bool} {left : Nat}

set_option maxHeartbeats 4000000 in
theorem lay_run (f : Buf) (n : Int) (w : World) (hD : DkAt w p bl v bufs laid off fused left) (hf : BufAt w f) (hne : f.blk ≠ bl) (hat : 256 * f.at' + 256 ≤ laid.length) :
    Calls Tryd.prog 59 #[.pointer (some ⟨p, 0, none⟩), .agg #[.int .i64 (f.at' : Int), f.slice], .int .i64 n] w fun e w' =>
      (∃ v, e = .returned v) ∧ DkAt w' p bl v bufs (layAt laid f.at' (f.xs.take (clamp n))) off fused left ∧ But bl w w' := by
  unfold Buf.slice
  have hlen := hf.len
  rw [hlen]
  go_enter Tryd.func59, Tryd.ntmps59
  go_wp2
  obtain ⟨W, hW⟩ : ∃ W, W = w.alloc (Obj.cells #[Value.int IntKind.i64 (f.at' : Int), Value.slice (some ⟨f.blk, 0, none⟩) 256 f.cap] 126) := ⟨_, rfl⟩
  have hbW : Below w.heap.size w W := by rw [hW]; exact (Below.refl _ _).alloc (Nat.le_refl _) _
  have hc0 : W.cell? ⟨w.heap.size, 0, none⟩ = some (.int .i64 (f.at' : Int)) := by rw [hW]; simp
  have hc1 : W.cell? ⟨w.heap.size, 1, none⟩ = some (.slice (some ⟨f.blk, 0, none⟩) 256 f.cap) := by rw [hW]; simp
  have hDW := hD.stays hbW
  have hHb : w.heap.size ≠ bl := by have := hD.row.lt; omega
  obtain ⟨H, hH⟩ : ∃ H, H = w.heap.size := ⟨_, rfl⟩
  rw [← hW]
  rw [← hH] at hc0 hc1 hHb ⊢
  clear hW hH
  have hHlt : H < W.drew.heap.size := World.block_lt_of_cell? W _ hc0
  have hrow : W.drew.heap[bl]? = some (.cells (laid.map (Value.int .u8)).toArray 5 (0, 0)) := hDW.row
  have hBW : Bs W.drew (some ⟨f.blk, 0, none⟩) f.cap f.xs := hf.bs.stays hbW.drew
  have hT : ∀ m, m ≤ 256 → Bs W.drew (some ⟨f.blk, 0, none⟩) f.cap (f.xs.take m) := fun m hm => (hBW.upto (P := Tryd.prog) 43 5 Tryd.underlying43 (by kernel_rfl) (by kernel_rfl) m (by omega)).2
  have hsrc : ∀ m, m ≤ 256 → ∀ j u, ((f.xs.take m).map (Value.int .u8))[j]? = some u → W.drew.cell? ((⟨f.blk, 0, none⟩ : Addr).add j) = some u := fun m hm => by
    rcases (hT m hm).lay with h0 | ⟨b, o, ha, hc⟩
    · rw [h0]; simp
    · simp at ha
      obtain ⟨rfl, rfl⟩ := ha
      exact Bs.srcCells hc
  have hlm : ∀ m, m ≤ 256 → ((f.xs.take m).map (Value.int .u8)).length = Nat.min m 256 := fun m hm => by simp [hlen]
  have hfit : ∀ m, m ≤ 256 → 256 * f.at' + ((f.xs.take m).map (Value.int .u8)).length ≤ (laid.map (Value.int .u8)).length := fun m hm => by simp; omega
  have hend : ∀ m, m ≤ 256 → clamp n = m → ∀ w4, Hid (w4.heap[bl]? = some (.cells (splice (laid.map (Value.int .u8)) (256 * f.at') ((f.xs.take m).map (Value.int .u8))).toArray 5 (0, 0))) → But bl W.drew w4 →
      DkAt w4 p bl v bufs (layAt laid f.at' (f.xs.take (clamp n))) off fused left ∧ But bl w w4 := fun m hm hc w4 h4 hb4 => by
    have hl : (f.xs.take m).length ≤ 256 := by simp; omega
    refine ⟨hDW.drew.relaid (layAt_length (by rw [hc]; omega)) (layAt_rng hD.rng (fun x hx => hf.bs.rng x (List.mem_of_mem_take hx))) hb4 ?_, (But.of_below (hbW.drew)).trans hb4⟩
    have := h4.out
    unfold Row
    rw [this, hc]
    simp [splice, layAt, List.map_take, List.map_drop]
  rcases (by omega : n < 0 ∨ (0 ≤ n ∧ n ≤ 256) ∨ 256 < n) with hn | ⟨hn1, hn2⟩ | hn
  · have hcl : clamp n = 0 := by unfold clamp; omega
    go_region_held_law (fun w' => w'.cell? ⟨H, 0, none⟩ = some (.int .i64 (f.at' : Int)) ∧ w'.cell? ⟨H, 1, none⟩ = some (.slice (some ⟨f.blk, 0, none⟩) 256 f.cap)) (first | go_keep | exact ⟨(World.cell?_of_block (hb4.block _ hHb hHlt)).trans hc0, (World.cell?_of_block (hb4.block _ hHb hHlt)).trans hc1⟩)
      (first
        | (go_at_call 57; refine (sector_run f.at' _ hDW.drew hat).mono ?_; rintro e w' ⟨rfl, rfl⟩)
        | (refine step_copy_but rfl (.tmp 9) (.tmp 15) 43 43 rfl 5 Tryd.underlying43 (by kernel_rfl) 256 (laid.length - 256 * f.at') 0 f.cap bl (256 * f.at') ⟨f.blk, 0, none⟩ rfl rfl (laid.map (Value.int .u8)) 5 hrow ((f.xs.take 0).map (Value.int .u8)) (hlm _ (by omega)) (hsrc _ (by omega)) (hfit _ (by omega)) (int_oneCell _ _) ?_; intro w4 h4 hb4))
    all_goals (go_end0; exact ⟨⟨_, rfl⟩, hend _ (by omega) hcl _ h4 hb4⟩)
  · obtain ⟨m, rfl⟩ : ∃ m : Nat, n = (m : Int) := ⟨n.toNat, by omega⟩
    have hm : m ≤ 256 := by omega
    have hcap : (m : Int) ≤ (f.cap : Int) := by have := hf.bs.cap; omega
    have hcl : clamp (m : Int) = m := by unfold clamp; omega
    go_region_held_law (fun w' => w'.cell? ⟨H, 0, none⟩ = some (.int .i64 (f.at' : Int)) ∧ w'.cell? ⟨H, 1, none⟩ = some (.slice (some ⟨f.blk, 0, none⟩) 256 f.cap)) (first | go_keep | exact ⟨(World.cell?_of_block (hb4.block _ hHb hHlt)).trans hc0, (World.cell?_of_block (hb4.block _ hHb hHlt)).trans hc1⟩)
      (first
        | (go_at_call 57; refine (sector_run f.at' _ hDW.drew hat).mono ?_; rintro e w' ⟨rfl, rfl⟩)
        | (refine step_copy_but rfl (.tmp 9) (.tmp 15) 43 43 rfl 5 Tryd.underlying43 (by kernel_rfl) 256 (laid.length - 256 * f.at') m f.cap bl (256 * f.at') ⟨f.blk, 0, none⟩ rfl rfl (laid.map (Value.int .u8)) 5 hrow ((f.xs.take m).map (Value.int .u8)) (hlm _ hm) (hsrc _ hm) (hfit _ hm) (int_oneCell _ _) ?_; intro w4 h4 hb4))
    all_goals (go_end0; exact ⟨⟨_, rfl⟩, hend _ hm hcl _ h4 hb4⟩)
  · have hcl : clamp n = 256 := by unfold clamp; omega
    have hcap : (256 : Int) ≤ (f.cap : Int) := by have := hf.bs.cap; omega
    go_region_held_law (fun w' => w'.cell? ⟨H, 0, none⟩ = some (.int .i64 (f.at' : Int)) ∧ w'.cell? ⟨H, 1, none⟩ = some (.slice (some ⟨f.blk, 0, none⟩) 256 f.cap)) (first | go_keep | exact ⟨(World.cell?_of_block (hb4.block _ hHb hHlt)).trans hc0, (World.cell?_of_block (hb4.block _ hHb hHlt)).trans hc1⟩)
      (first
        | (go_at_call 57; refine (sector_run f.at' _ hDW.drew hat).mono ?_; rintro e w' ⟨rfl, rfl⟩)
        | (refine step_copy_but rfl (.tmp 9) (.tmp 15) 43 43 rfl 5 Tryd.underlying43 (by kernel_rfl) 256 (laid.length - 256 * f.at') 256 f.cap bl (256 * f.at') ⟨f.blk, 0, none⟩ rfl rfl (laid.map (Value.int .u8)) 5 hrow ((f.xs.take 256).map (Value.int .u8)) (hlm _ (by omega)) (hsrc _ (by omega)) (hfit _ (by omega)) (int_oneCell _ _) ?_; intro w4 h4 hb4))
    all_goals (go_end0; exact ⟨⟨_, rfl⟩, hend _ (by omega) hcl _ h4 hb4⟩)

end
end Go.Proofs.YtjfoidilecognaaDoor
