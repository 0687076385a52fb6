/-
  Package disk: Flush.
-/
import Derived.Test.YteocmmmnfbabaaaDoorIters
import Derived.Test.YteocmmmnfbabaaaDoorLay
namespace Go.Proofs.YteocmmmnfbabaaaDoor
set_option linter.unusedSimpArgs false
set_option linter.unusedVariables false
open Go.RowKit
attribute [local go_sem] Oper.semAt_some wide_fn wide_depth round_fn round_depth

/-- All is as it was but the blocks of F, and new blocks. -/
structure Frm (F : Nat → Prop) (w w' : World) : Prop where
  os : w'.os = w.os
  tape : w'.tape = w.tape
  output : w'.output = w.output
  size : w.heap.size ≤ w'.heap.size
  block : ∀ k, ¬ F k → k < w.heap.size → w'.heap[k]? = w.heap[k]?

theorem Frm.refl (F : Nat → Prop) (w : World) : Frm F w w := ⟨rfl, rfl, rfl, Nat.le_refl _, fun _ _ _ => rfl⟩
theorem Frm.trans {F : Nat → Prop} {a b c : World} (h : Frm F a b) (k : Frm F b c) : Frm F a c :=
  ⟨k.os.trans h.os, k.tape.trans h.tape, k.output.trans h.output, Nat.le_trans h.size k.size, fun i hi hl => (k.block i hi (Nat.lt_of_lt_of_le hl h.size)).trans (h.block i hi hl)⟩
theorem Frm.of_below {F : Nat → Prop} {a b : World} (h : Below a.heap.size a b) : Frm F a b := ⟨h.os, h.tape, h.output, h.size, fun k _ hl => h.block k hl⟩
theorem Frm.of_but {F : Nat → Prop} {g : Nat} {a b : World} (h : But g a b) (hg : F g) : Frm F a b := ⟨h.os, h.tape, h.output, h.size, fun k hk hl => h.block k (fun e => hk (e ▸ hg)) hl⟩
theorem Frm.mono {F G : Nat → Prop} {a b : World} (h : Frm F a b) (hg : ∀ k, F k → G k) : Frm G a b := ⟨h.os, h.tape, h.output, h.size, fun k hk hl => h.block k (fun e => hk (hg k e)) hl⟩
theorem Frm.drew {F : Nat → Prop} {a b : World} (h : Frm F a b) : Frm F a b.drew := ⟨h.os, h.tape, h.output, h.size, h.block⟩
theorem Frm.aside {F : Nat → Prop} {B : Nat} {a b c : World} (h : Frm F a b) (hA : Aside B b c) (hB : a.heap.size ≤ B) : Frm F a c :=
  ⟨hA.os.trans h.os, hA.tape.trans h.tape, hA.output.trans h.output, Nat.le_trans h.size hA.size, fun i hi hl => (hA.block i (Nat.lt_of_lt_of_le hl h.size) (.inl (by omega))).trans (h.block i hi hl)⟩
theorem Frm.below {F : Nat → Prop} {a b : World} (h : Frm F a b) {B : Nat} (hB : B ≤ a.heap.size) (hF : ∀ k, F k → B ≤ k) : Below B a b := ⟨h.os, h.tape, h.output, h.size, fun k hk => h.block k (fun e => by have := hF k e; omega) (by omega)⟩

/-- The disk's own two blocks that turn. -/
def Two (p bl : Nat) (k : Nat) : Prop := k = p ∨ k = bl

section
variable {p bl : Nat} {v : Value} {bufs : List Buf} {laid : List Int} {off fused : Bool} {left : Nat}

theorem DkAt.cells {w : World} (h : DkAt w p bl v bufs laid off fused left) : ∀ k, Foot p bl v bufs k → ∃ o : Obj, w.heap[k]? = some o ∧ o.isCells = true := by
  rintro k (rfl | rfl | e | ⟨f, hf, rfl⟩)
  · exact ⟨_, h.blk, rfl⟩
  · exact ⟨_, h.row, rfl⟩
  · obtain ⟨cs, hc⟩ := own_type h.own e
    exact ⟨_, hc, rfl⟩
  · obtain ⟨cs, hc⟩ := (h.buf f hf).1.blk
    exact ⟨_, hc, rfl⟩

theorem DkAt.aside {w w' : World} {B : Nat} (h : DkAt w p bl v bufs laid off fused left) (hA : Aside B w w') : DkAt w' p bl v bufs laid off fused left :=
  h.keep (fun k hk => hA.block k (h.foot_lt k hk) (.inr (h.cells k hk)))

theorem DkAt.nd {w : World} (h : DkAt w p bl v bufs laid off fused left) : Nd p v bufs w := ⟨h.fields.2.1, h.own⟩

theorem keeps_but {B g : Nat} {w w' : World} (h : But g w w') (hg : g < B) : KeepsFrom B w w' := ⟨h.size, fun k o hB hk _ => (h.block k (by omega) (Array.getElem?_eq_some_iff.1 hk).1).trans hk⟩

/-- The sectors' bytes when the first i writes are laid, each so far as keep says. -/
def laidTo (laid : List Int) (bufs : List Buf) (keep : Nat → Int) (i : Nat) : List Int := (List.range i).foldl (fun l k => layAt l (bufs.getD k noBuf).at' ((bufs.getD k noBuf).xs.take (clamp (keep k)))) laid

theorem laidTo_succ (laid : List Int) (bufs : List Buf) (keep : Nat → Int) (i : Nat) : laidTo laid bufs keep (i + 1) = layAt (laidTo laid bufs keep i) (bufs.getD i noBuf).at' ((bufs.getD i noBuf).xs.take (clamp (keep i))) := by
  simp [laidTo, List.range_succ]

theorem getD_mem {bufs : List Buf} {i : Nat} (h : i < bufs.length) : bufs.getD i noBuf ∈ bufs := by
  simp [List.getD, h]

set_option maxRecDepth 100000 in
set_option maxHeartbeats 4000000 in
theorem flush_off (w : World) (hD : DkAt w p bl v bufs laid true fused left) :
    Calls Tryd.prog 22 #[.pointer (some ⟨p, 0, none⟩)] w fun e w' => e = .returned (.int .i64 8) ∧ Below w.heap.size w w' := by
  refine (callsIn_wide (n := 0)).1 (callsIn_of_wp_marks Tryd.func22 rfl trivial ?_ rfl)
  simp only [Tryd.ntmps22, List.size_toArray, List.length_cons, List.length_nil, Nat.reduceAdd, Nat.reduceSub, Array.replicate_succ, Array.replicate_zero, List.push_toArray, List.append_toArray, List.nil_append, List.cons_append]
  have hD1 := hD.stays ((Below.refl _ _).alloc (Nat.le_refl _) (.cells #[.pointer (some ⟨p, 0, none⟩)] 42))
  gi_wp2_with (first
    | (gi_at_call 51; refine (callsIn_wide.2 (down_run _ hD1)).mono ?_; rintro e w' ⟨rfl, rfl⟩))
  exact ⟨_, results_tmp rfl _ _ _, rfl, (Below.refl _ _).alloc (Nat.le_refl _) _⟩

set_option maxRecDepth 100000 in
set_option maxHeartbeats 4000000 in
theorem flush_blown (w : World) (hD : DkAt w p bl v bufs laid false true 0) :
    Calls Tryd.prog 22 #[.pointer (some ⟨p, 0, none⟩)] w fun e w' => e = .returned (.int .i64 8) ∧ DkAt w' p bl v bufs laid true true 0 ∧ Frm (Two p bl) w w' := by
  refine (callsIn_wide (n := 0)).1 (callsIn_of_wp_marks Tryd.func22 rfl trivial ?_ rfl)
  simp only [Tryd.ntmps22, List.size_toArray, List.length_cons, List.length_nil, Nat.reduceAdd, Nat.reduceSub, Array.replicate_succ, Array.replicate_zero, List.push_toArray, List.append_toArray, List.nil_append, List.cons_append]
  have hb1 : Below w.heap.size w (w.alloc (.cells #[.pointer (some ⟨p, 0, none⟩)] 42)) := (Below.refl _ _).alloc (Nat.le_refl _) _
  have hD1 := hD.stays hb1
  gi_wp2_with (first
    | (gi_at_call 51; refine (callsIn_wide.2 (down_run _ hD1)).mono ?_; rintro e w' ⟨rfl, rfl⟩)
    | (gi_at_call 52; refine (callsIn_wide.2 (spend_run _ hD1)).mono ?_; rintro e w2 ⟨rfl, hD2, hb2⟩; rw [show may true 0 = false from rfl] at hD2 ⊢))
  exact ⟨_, results_tmp rfl _ _ _, rfl, hD2, (Frm.of_below hb1).trans (Frm.of_but hb2 (.inl rfl))⟩

set_option maxRecDepth 100000 in
set_option maxHeartbeats 4000000 in
theorem flush_done (w : World) (hD : DkAt w p bl v bufs laid false fused left) (hm : may fused left = true) (hlen : bufs.length ≤ 1000000) :
    Calls Tryd.prog 22 #[.pointer (some ⟨p, 0, none⟩)] w fun e w' => e = .returned (.int .i64 0) ∧ DkAt w' p bl (.slice none 0 0) [] (laidTo laid bufs (fun _ => 256) bufs.length) false fused (if fused then left - 1 else left) ∧ Frm (Two p bl) w w' := by
  refine (callsIn_wide (n := 0)).1 (callsIn_of_wp_marks Tryd.func22 rfl trivial ?_ rfl)
  simp only [Tryd.ntmps22, List.size_toArray, List.length_cons, List.length_nil, Nat.reduceAdd, Nat.reduceSub, Array.replicate_succ, Array.replicate_zero, List.push_toArray, List.append_toArray, List.nil_append, List.cons_append]
  have hb1 : Below w.heap.size w (w.alloc (.cells #[.pointer (some ⟨p, 0, none⟩)] 42)) := (Below.refl _ _).alloc (Nat.le_refl _) _
  have hD1 := hD.stays hb1
  have hpw : w.heap.size ≠ p := by have := hD.blk.lt; omega
  have hpl : w.heap.size ≠ bl := by have := hD.row.lt; omega
  have hbx : (w.alloc (.cells #[.pointer (some ⟨p, 0, none⟩)] 42)).cell? ⟨w.heap.size, 0, none⟩ = some (.pointer (some ⟨p, 0, none⟩)) := by simp
  obtain ⟨left', hleft⟩ : ∃ l, l = (if fused then left - 1 else left) := ⟨_, rfl⟩
  rw [← hleft]
  gi_wp2_with (first
    | (gi_at_call 51; refine (callsIn_wide.2 (down_run _ hD1)).mono ?_; rintro e w' ⟨rfl, rfl⟩)
    | (gi_at_call 52; refine (callsIn_wide.2 (spend_run _ hD1)).mono ?_; rintro e w2 ⟨rfl, hD2, hb2⟩; rw [hm] at hD2 ⊢; rw [← hleft] at hD2; have hbx2 : w2.cell? ⟨w.heap.size, 0, none⟩ = some (.pointer (some ⟨p, 0, none⟩)) := (World.cell?_of_block (hb2.block _ hpw (by simp))).trans hbx))
  have hs2 : w.heap.size ≤ w2.heap.size := by have := hb2.size; simp at this; omega
  have hF2 : Frm (Two p bl) w w2 := (Frm.of_below hb1).trans (Frm.of_but hb2 (.inl rfl))
  refine wpIn_range_bound 53 (.pointer (some ⟨p, 0, none⟩)) rfl (enters_of Tryd.func53 (by kernel_rfl) rfl) bufs.length (fun i => #[.int .i64 (i : Int), (bufs.getD i noBuf).agg]) (Nd p v bufs) (fun W h => oldest_iter p v bufs hlen W h) (fun _ => rfl)
    (fun i W => DkAt W p bl v bufs (laidTo laid bufs (fun _ => 256) i) false fused left' ∧ Frm (Two p bl) w W ∧ W.cell? ⟨w.heap.size, 0, none⟩ = some (.pointer (some ⟨p, 0, none⟩))) (fun _ _ => False)
    (fun i W h => h.1.nd) (fun i W W' h hA => ⟨h.1.aside hA, h.2.1.aside hA hs2, hA.cell h.2.2⟩) (fun _ _ _ h _ => h) ⟨hD2, hF2, hbx2⟩ ?round ?done ?stop
  case round =>
    rintro l i W K hi ⟨hDi, hFi, hbxi⟩ hK
    obtain ⟨f, hfe⟩ : ∃ f, f = bufs.getD i noBuf := ⟨_, rfl⟩
    have hfm : f ∈ bufs := hfe ▸ getD_mem hi
    have hf := hDi.buf f hfm
    rw [laidTo_succ, ← hfe] at hK
    dsimp only
    rw [← hfe]
    unfold Buf.agg Buf.slice
    clear hfe
    gi_wp2
    refine hK _ _ ((KeepsOthers.alloc _ _).from _) (fun w₃ hA => ?_)
    have hba : Below W.heap.size W (W.alloc (.cells #[.int .i64 (f.at' : Int), .slice (some ⟨f.blk, 0, none⟩) f.xs.length f.cap] 91)) := (Below.refl _ _).alloc (Nat.le_refl _) _
    have hD3 := (hDi.stays hba).aside hA
    have hc0 : w₃.cell? ⟨W.heap.size, 0, none⟩ = some (.int .i64 (f.at' : Int)) := hA.cell (by simp)
    have hc1 : w₃.cell? ⟨W.heap.size, 1, none⟩ = some (.slice (some ⟨f.blk, 0, none⟩) f.xs.length f.cap) := hA.cell (by simp)
    have hbx3 := hA.cell (hba.cell (World.block_lt_of_cell? _ _ hbxi) ▸ hbxi)
    have hF3 := (hFi.trans (Frm.of_below hba)).aside hA hs2
    have hcall := lay_run f 256 w₃ hD3 (hD3.buf f hfm).1 hf.2.1 hf.2.2
    unfold Buf.slice at hcall
    gi_wp2_with (gi_at_call 54; go_loud (refine (CallsIn.inRound l (callsIn_wide.2 hcall)).mono ?_; rintro e w4 ⟨⟨_, rfl⟩, hD4, hb4⟩))
    have hbl : bl < w2.heap.size := hD2.row.lt
    exact ⟨keeps_but hb4 hbl, hD4, hF3.trans (Frm.of_but hb4 (.inr rfl)), (World.cell?_of_block (hb4.block _ hpl (World.block_lt_of_cell? _ _ hbx3))).trans hbx3⟩
  case done =>
    rintro W ⟨hDW, hFW, hbxW⟩ hK
    have hcv := hDW.fields.2.1
    have hfv := hDW.free 1
    gi_wp2
    have hK2 := (KeepsOthers.setCell W ⟨p, 1, none⟩ (.slice none 0 0)).same _ _ hK rfl
    refine ⟨by simp, .inl ⟨_, _, rfl, run_takeDeferred hK2, ?_⟩⟩
    have hA := Aside.put (B := w2.heap.size) (.deferred none) hK2 (Nat.le_refl _) rfl
    have hbs : But p W (W.setCell ⟨p, 1, none⟩ (.slice none 0 0)) := (But.refl _ _).setCell _ _
    exact ⟨_, results_tmp rfl _ _ _, rfl, (hDW.clear hDW.lft hbs (hDW.blk.set 1 _)).aside hA, (hFW.trans (Frm.of_but hbs (.inl rfl))).aside hA hs2⟩
  case stop =>
    rintro c W h _
    exact h.elim

end

end Go.Proofs.YteocmmmnfbabaaaDoor
