/-
  Package disk: Flush.
-/
import Derived.Test.YthbcphalokoknaaDoorG15
import Derived.Test.YthbcphalokoknaaDoorG01
import Derived.Stop.RegionWithIn
import Derived.BigRegionIn
import Derived.Sort.QuietIn
import Derived.BigRegion
import Derived.Deep.Slices
namespace Go.Proofs.YthbcphalokoknaaDoor
set_option linter.unusedSimpArgs false
set_option linter.unusedVariables false
open Go.RowKit
attribute [local go_sem] Oper.semAt_some wide_fn wide_depth round_fn round_depth

/-- All is as it was but the blocks of F, and new blocks. -/
structure Frm (F : Nat → Prop) (w w' : World) : Prop where
  os : w'.os = w.os
  tape : w'.tape = w.tape
  output : w'.output = w.output
  size : w.heap.size ≤ w'.heap.size
  block : ∀ k, ¬ F k → k < w.heap.size → w'.heap[k]? = w.heap[k]?

theorem Frm.refl (F : Nat → Prop) (w : World) : Frm F w w := ⟨rfl, rfl, rfl, Nat.le_refl _, fun _ _ _ => rfl⟩
theorem Frm.trans {F : Nat → Prop} {a b c : World} (h : Frm F a b) (k : Frm F b c) : Frm F a c :=
  ⟨k.os.trans h.os, k.tape.trans h.tape, k.output.trans h.output, Nat.le_trans h.size k.size, fun i hi hl => (k.block i hi (Nat.lt_of_lt_of_le hl h.size)).trans (h.block i hi hl)⟩
theorem Frm.of_below {F : Nat → Prop} {a b : World} (h : Below a.heap.size a b) : Frm F a b := ⟨h.os, h.tape, h.output, h.size, fun k _ hl => h.block k hl⟩
theorem Frm.of_but {F : Nat → Prop} {g : Nat} {a b : World} (h : But g a b) (hg : F g) : Frm F a b := ⟨h.os, h.tape, h.output, h.size, fun k hk hl => h.block k (fun e => hk (e ▸ hg)) hl⟩
theorem Frm.mono {F G : Nat → Prop} {a b : World} (h : Frm F a b) (hg : ∀ k, F k → G k) : Frm G a b := ⟨h.os, h.tape, h.output, h.size, fun k hk hl => h.block k (fun e => hk (hg k e)) hl⟩
theorem Frm.drew {F : Nat → Prop} {a b : World} (h : Frm F a b) : Frm F a b.drew := ⟨h.os, h.tape, h.output, h.size, h.block⟩
theorem Frm.aside {F : Nat → Prop} {B : Nat} {a b c : World} (h : Frm F a b) (hA : Aside B b c) (hB : a.heap.size ≤ B) : Frm F a c :=
  ⟨hA.os.trans h.os, hA.tape.trans h.tape, hA.output.trans h.output, Nat.le_trans h.size hA.size, fun i hi hl => (hA.block i (Nat.lt_of_lt_of_le hl h.size) (.inl (by omega))).trans (h.block i hi hl)⟩
theorem Frm.below {F : Nat → Prop} {a b : World} (h : Frm F a b) {B : Nat} (hB : B ≤ a.heap.size) (hF : ∀ k, F k → B ≤ k) : Below B a b := ⟨h.os, h.tape, h.output, h.size, fun k hk => h.block k (fun e => by have := hF k e; omega) (by omega)⟩

/-- The disk's own two blocks that turn. -/
def Two (p bl : Nat) (k : Nat) : Prop := k = p ∨ k = bl

section
variable {p bl : Nat} {v : Value} {bufs : List Buf} {laid : List Int} {off fused : Bool} {left : Nat}

theorem DkAt.cells {w : World} (h : DkAt w p bl v bufs laid off fused left) : ∀ k, Foot p bl v bufs k → ∃ o : Obj, w.heap[k]? = some o ∧ o.isCells = true := by
  rintro k (rfl | rfl | e | ⟨f, hf, rfl⟩)
  · exact ⟨_, h.blk, rfl⟩
  · exact ⟨_, h.row, rfl⟩
  · obtain ⟨cs, hc⟩ := own_type h.own e
    exact ⟨_, hc, rfl⟩
  · obtain ⟨cs, hc⟩ := (h.buf f hf).1.blk
    exact ⟨_, hc, rfl⟩

theorem DkAt.aside {w w' : World} {B : Nat} (h : DkAt w p bl v bufs laid off fused left) (hA : Aside B w w') : DkAt w' p bl v bufs laid off fused left :=
  h.keep (fun k hk => hA.block k (h.foot_lt k hk) (.inr (h.cells k hk)))

theorem DkAt.nd {w : World} (h : DkAt w p bl v bufs laid off fused left) : Nd p v bufs w := ⟨h.fields.2.1, h.own⟩

theorem keeps_but {B g : Nat} {w w' : World} (h : But g w w') (hg : g < B) : KeepsFrom B w w' := ⟨h.size, fun k o hB hk _ => (h.block k (by omega) (Array.getElem?_eq_some_iff.1 hk).1).trans hk⟩

/-- The sectors' bytes when the first i writes are laid, each so far as keep says. -/
def laidTo (laid : List Int) (bufs : List Buf) (keep : Nat → Int) (i : Nat) : List Int := (List.range i).foldl (fun l k => layAt l (bufs.getD k noBuf).at' ((bufs.getD k noBuf).xs.take (clamp (keep k)))) laid

theorem laidTo_succ (laid : List Int) (bufs : List Buf) (keep : Nat → Int) (i : Nat) : laidTo laid bufs keep (i + 1) = layAt (laidTo laid bufs keep i) (bufs.getD i noBuf).at' ((bufs.getD i noBuf).xs.take (clamp (keep i))) := by
  simp [laidTo, List.range_succ]

theorem getD_mem {bufs : List Buf} {i : Nat} (h : i < bufs.length) : bufs.getD i noBuf ∈ bufs := by
  simp [List.getD, h]

set_option maxRecDepth 100000 in
set_option maxHeartbeats 4000000 in
theorem flush_off (w : World) (hD : DkAt w p bl v bufs laid true fused left) :
    Calls Tryd.prog 22 #[.pointer (some ⟨p, 0, none⟩)] w fun e w' => e = .returned (.int .i64 8) ∧ Below w.heap.size w w' := by
  refine (callsIn_wide (n := 0)).1 (callsIn_of_wp_marks Tryd.func22 rfl trivial ?_ rfl)
  simp only [Tryd.ntmps22, List.size_toArray, List.length_cons, List.length_nil, Nat.reduceAdd, Nat.reduceSub, Array.replicate_succ, Array.replicate_zero, List.push_toArray, List.append_toArray, List.nil_append, List.cons_append]
  have hD1 := hD.stays ((Below.refl _ _).alloc (Nat.le_refl _) (.cells #[.pointer (some ⟨p, 0, none⟩)] 42))
  gi_wp2_with (first
    | (gi_at_call 51; refine (callsIn_wide.2 (down_run _ hD1)).mono ?_; rintro e w' ⟨rfl, rfl⟩))
  exact ⟨_, results_tmp rfl _ _ _, rfl, (Below.refl _ _).alloc (Nat.le_refl _) _⟩

set_option maxRecDepth 100000 in
set_option maxHeartbeats 4000000 in
theorem flush_blown (w : World) (hD : DkAt w p bl v bufs laid false true 0) :
    Calls Tryd.prog 22 #[.pointer (some ⟨p, 0, none⟩)] w fun e w' => e = .returned (.int .i64 8) ∧ DkAt w' p bl v bufs laid true true 0 ∧ Frm (Two p bl) w w' := by
  refine (callsIn_wide (n := 0)).1 (callsIn_of_wp_marks Tryd.func22 rfl trivial ?_ rfl)
  simp only [Tryd.ntmps22, List.size_toArray, List.length_cons, List.length_nil, Nat.reduceAdd, Nat.reduceSub, Array.replicate_succ, Array.replicate_zero, List.push_toArray, List.append_toArray, List.nil_append, List.cons_append]
  have hb1 : Below w.heap.size w (w.alloc (.cells #[.pointer (some ⟨p, 0, none⟩)] 42)) := (Below.refl _ _).alloc (Nat.le_refl _) _
  have hD1 := hD.stays hb1
  gi_wp2_with (first
    | (gi_at_call 51; refine (callsIn_wide.2 (down_run _ hD1)).mono ?_; rintro e w' ⟨rfl, rfl⟩)
    | (gi_at_call 52; refine (callsIn_wide.2 (spend_run _ hD1)).mono ?_; rintro e w2 ⟨rfl, hD2, hb2⟩; rw [show may true 0 = false from rfl] at hD2 ⊢))
  exact ⟨_, results_tmp rfl _ _ _, rfl, hD2, (Frm.of_below hb1).trans (Frm.of_but hb2 (.inl rfl))⟩

set_option maxRecDepth 100000 in
set_option maxHeartbeats 4000000 in
theorem flush_done (w : World) (hD : DkAt w p bl v bufs laid false fused left) (hm : may fused left = true) (hlen : bufs.length ≤ 1000000) :
    Calls Tryd.prog 22 #[.pointer (some ⟨p, 0, none⟩)] w fun e w' => e = .returned (.int .i64 0) ∧ DkAt w' p bl (.slice none 0 0) [] (laidTo laid bufs (fun _ => 256) bufs.length) false fused (if fused then left - 1 else left) ∧ Frm (Two p bl) w w' := by
  refine (callsIn_wide (n := 0)).1 (callsIn_of_wp_marks Tryd.func22 rfl trivial ?_ rfl)
  simp only [Tryd.ntmps22, List.size_toArray, List.length_cons, List.length_nil, Nat.reduceAdd, Nat.reduceSub, Array.replicate_succ, Array.replicate_zero, List.push_toArray, List.append_toArray, List.nil_append, List.cons_append]
  have hb1 : Below w.heap.size w (w.alloc (.cells #[.pointer (some ⟨p, 0, none⟩)] 42)) := (Below.refl _ _).alloc (Nat.le_refl _) _
  have hD1 := hD.stays hb1
  have hpw : w.heap.size ≠ p := by have := hD.blk.lt; omega
  have hpl : w.heap.size ≠ bl := by have := hD.row.lt; omega
  have hbx : (w.alloc (.cells #[.pointer (some ⟨p, 0, none⟩)] 42)).cell? ⟨w.heap.size, 0, none⟩ = some (.pointer (some ⟨p, 0, none⟩)) := by simp
  obtain ⟨left', hleft⟩ : ∃ l, l = (if fused then left - 1 else left) := ⟨_, rfl⟩
  rw [← hleft]
  gi_wp2_with (first
    | (gi_at_call 51; refine (callsIn_wide.2 (down_run _ hD1)).mono ?_; rintro e w' ⟨rfl, rfl⟩)
    | (gi_at_call 52; refine (callsIn_wide.2 (spend_run _ hD1)).mono ?_; rintro e w2 ⟨rfl, hD2, hb2⟩; rw [hm] at hD2 ⊢; rw [← hleft] at hD2; have hbx2 : w2.cell? ⟨w.heap.size, 0, none⟩ = some (.pointer (some ⟨p, 0, none⟩)) := (World.cell?_of_block (hb2.block _ hpw (by simp))).trans hbx))
  have hs2 : w.heap.size ≤ w2.heap.size := by have := hb2.size; simp at this; omega
  have hF2 : Frm (Two p bl) w w2 := (Frm.of_below hb1).trans (Frm.of_but hb2 (.inl rfl))
  refine wpIn_range_bound 53 (.pointer (some ⟨p, 0, none⟩)) rfl (enters_of Tryd.func53 (by kernel_rfl) rfl) bufs.length (fun i => #[.int .i64 (i : Int), (bufs.getD i noBuf).agg]) (Nd p v bufs) (fun W h => oldest_iter p v bufs hlen W h) (fun _ => rfl)
    (fun i W => DkAt W p bl v bufs (laidTo laid bufs (fun _ => 256) i) false fused left' ∧ Frm (Two p bl) w W ∧ W.cell? ⟨w.heap.size, 0, none⟩ = some (.pointer (some ⟨p, 0, none⟩))) (fun _ _ => False)
    (fun i W h => h.1.nd) (fun i W W' h hA => ⟨h.1.aside hA, h.2.1.aside hA hs2, hA.cell h.2.2⟩) (fun _ _ _ h _ => h) ⟨hD2, hF2, hbx2⟩ ?round ?done ?stop
  case round =>
    rintro l i W K hi ⟨hDi, hFi, hbxi⟩ hK
    obtain ⟨f, hfe⟩ : ∃ f, f = bufs.getD i noBuf := ⟨_, rfl⟩
    have hfm : f ∈ bufs := hfe ▸ getD_mem hi
    have hf := hDi.buf f hfm
    rw [laidTo_succ, ← hfe] at hK
    dsimp only
    rw [← hfe]
    unfold Buf.agg Buf.slice
    clear hfe
    gi_wp2
    refine hK _ _ ((KeepsOthers.alloc _ _).from _) (fun w₃ hA => ?_)
    have hba : Below W.heap.size W (W.alloc (.cells #[.int .i64 (f.at' : Int), .slice (some ⟨f.blk, 0, none⟩) f.xs.length f.cap] 91)) := (Below.refl _ _).alloc (Nat.le_refl _) _
    have hD3 := (hDi.stays hba).aside hA
    have hc0 : w₃.cell? ⟨W.heap.size, 0, none⟩ = some (.int .i64 (f.at' : Int)) := hA.cell (by simp)
    have hc1 : w₃.cell? ⟨W.heap.size, 1, none⟩ = some (.slice (some ⟨f.blk, 0, none⟩) f.xs.length f.cap) := hA.cell (by simp)
    have hbx3 := hA.cell (hba.cell (World.block_lt_of_cell? _ _ hbxi) ▸ hbxi)
    have hF3 := (hFi.trans (Frm.of_below hba)).aside hA hs2
    have hcall := lay_run f 256 w₃ hD3 (hD3.buf f hfm).1 hf.2.1 hf.2.2
    unfold Buf.slice at hcall
    gi_wp2_with (gi_at_call 54; go_loud (refine (CallsIn.inRound l (callsIn_wide.2 hcall)).mono ?_; rintro e w4 ⟨⟨_, rfl⟩, hD4, hb4⟩))
    have hbl : bl < w2.heap.size := hD2.row.lt
    exact ⟨keeps_but hb4 hbl, hD4, hF3.trans (Frm.of_but hb4 (.inr rfl)), (World.cell?_of_block (hb4.block _ hpl (World.block_lt_of_cell? _ _ hbx3))).trans hbx3⟩
  case done =>
    rintro W ⟨hDW, hFW, hbxW⟩ hK
    have hcv := hDW.fields.2.1
    have hfv := hDW.free 1
    gi_wp2
    have hK2 := (KeepsOthers.setCell W ⟨p, 1, none⟩ (.slice none 0 0)).same _ _ hK rfl
    refine ⟨by simp, .inl ⟨_, _, rfl, run_takeDeferred hK2, ?_⟩⟩
    have hA := Aside.put (B := w2.heap.size) (.deferred none) hK2 (Nat.le_refl _) rfl
    have hbs : But p W (W.setCell ⟨p, 1, none⟩ (.slice none 0 0)) := (But.refl _ _).setCell _ _
    exact ⟨_, results_tmp rfl _ _ _, rfl, (hDW.clear hDW.lft hbs (hDW.blk.set 1 _)).aside hA, (hFW.trans (Frm.of_but hbs (.inl rfl))).aside hA hs2⟩
  case stop =>
    rintro c W h _
    exact h.elim

end

end Go.Proofs.YthbcphalokoknaaDoor

/-
  Package disk: Crash.
-/

namespace Go.Proofs.YthbcphalokoknaaDoor
set_option linter.unusedSimpArgs false
set_option linter.unusedVariables false
open Go.RowKit
attribute [local go_sem] Oper.semAt_some wide_fn wide_depth round_fn round_depth

/-- Integers behind a slice. -/
def Is (w : World) (a : Option Addr) (ks : List Int) : Prop := ks = [] ∨ ∃ b off, a = some ⟨b, off, none⟩ ∧ ∀ i, i < ks.length → w.cell? ⟨b, off + i, none⟩ = some (.int .i64 (ks.getD i 0))

theorem Is.at {w : World} {a : Option Addr} {ks : List Int} (h : Is w a ks) {k : Nat} (hk : k < ks.length) : ∃ b off, a = some ⟨b, off, none⟩ ∧ w.cell? ⟨b, off + k, none⟩ = some (.int .i64 (ks.getD k 0)) := by
  rcases h with rfl | ⟨b, off, rfl, hc⟩
  · simp at hk
  · exact ⟨b, off, rfl, hc k hk⟩

theorem Is.stays {w w' : World} {a : Option Addr} {ks : List Int} (h : Is w a ks) (hb : Below w.heap.size w w') : Is w' a ks := by
  rcases h with h | ⟨b, off, rfl, hc⟩
  · exact .inl h
  · refine .inr ⟨b, off, rfl, fun i hi => ?_⟩
    rw [hb.cell (World.block_lt_of_cell? w _ (hc i hi))]
    exact hc i hi

theorem Is.frm {w w' : World} {a : Option Addr} {ks : List Int} {F : Nat → Prop} (h : Is w a ks) (hb : Frm F w w') (hne : ks ≠ [] → ∀ x, a = some x → ¬ F x.block) : Is w' a ks := by
  rcases h with h | ⟨b, off, rfl, hc⟩
  · exact .inl h
  · refine .inr ⟨b, off, rfl, fun i hi => ?_⟩
    have h1 := hc i hi
    rw [World.cell?_of_block (w := w) (hb.block b (hne (fun h => by rw [h] at hi; simp at hi) _ rfl) (World.block_lt_of_cell? w _ h1))]
    exact h1

section
variable {p bl : Nat} {v : Value} {bufs : List Buf} {laid : List Int} {off fused : Bool} {left : Nat}

set_option maxRecDepth 100000 in
set_option maxHeartbeats 1000000 in
theorem crash_run (w : World) (ka : Option Addr) (kc : Nat) (ks : List Int) (hD : DkAt w p bl v bufs laid off fused left) (hlen : bufs.length ≤ 1000000) (hK : Is w ka ks) (hkl : ks.length ≤ 140737488351232) (hne : ks ≠ [] → ∀ x, ka = some x → ¬ Two p bl x.block) :
    Calls Tryd.prog 26 #[.pointer (some ⟨p, 0, none⟩), .slice ka ks.length kc] w fun e w' => (∃ v, e = .returned v) ∧ DkAt w' p bl (.slice none 0 0) [] (laidTo laid bufs (fun k => ks.getD k 0) (min bufs.length ks.length)) false false 0 ∧ Frm (Two p bl) w w' := by
  refine (callsIn_wide (n := 0)).1 (callsIn_of_wp_marks Tryd.func26 rfl trivial ?_ rfl)
  simp only [Tryd.ntmps26, List.size_toArray, List.length_cons, List.length_nil, Nat.reduceAdd, Nat.reduceSub, Array.replicate_succ, Array.replicate_zero, List.push_toArray, List.append_toArray, List.nil_append, List.cons_append]
  have hpw : p < w.heap.size := hD.blk.lt
  have hpl : bl < w.heap.size := hD.row.lt
  have hpl2 : w.heap.size ≠ bl := by omega
  have hpw2 : w.heap.size ≠ p := by omega
  have hpl3 : w.heap.size + 1 ≠ bl := by omega
  gi_wp2
  obtain ⟨w1, hw1⟩ : ∃ w1, w1 = (w.alloc (.cells #[.pointer (some ⟨p, 0, none⟩)] 42)).alloc (.cells #[.slice ka ks.length kc] 53) := ⟨_, rfl⟩
  have hb1 : Below w.heap.size w w1 := by rw [hw1]; exact ((Below.refl _ _).alloc (Nat.le_refl _) _).alloc (by simp) _
  have hc1 : w1.cell? ⟨w.heap.size, 0, none⟩ = some (.pointer (some ⟨p, 0, none⟩)) := by rw [hw1]; simp
  have hc2 : w1.cell? ⟨w.heap.size + 1, 0, none⟩ = some (.slice ka ks.length kc) := by rw [hw1]; simp
  rw [← hw1]
  have hs1 : w.heap.size ≤ w1.heap.size := hb1.size
  clear hw1
  refine wpIn_range_bound 53 (.pointer (some ⟨p, 0, none⟩)) rfl (enters_of Tryd.func53 (by kernel_rfl) rfl) bufs.length (fun i => #[.int .i64 (i : Int), (bufs.getD i noBuf).agg]) (Nd p v bufs) (fun W h => oldest_iter p v bufs hlen W h) (fun _ => rfl)
    (fun i W => i ≤ ks.length ∧ DkAt W p bl v bufs (laidTo laid bufs (fun k => ks.getD k 0) i) off fused left ∧ Frm (Two p bl) w W ∧ W.cell? ⟨w.heap.size, 0, none⟩ = some (.pointer (some ⟨p, 0, none⟩)) ∧ W.cell? ⟨w.heap.size + 1, 0, none⟩ = some (.slice ka ks.length kc))
    (fun c W => c = .exit 0 ∧ ks.length < bufs.length ∧ DkAt W p bl v bufs (laidTo laid bufs (fun k => ks.getD k 0) ks.length) off fused left ∧ Frm (Two p bl) w W ∧ W.cell? ⟨w.heap.size, 0, none⟩ = some (.pointer (some ⟨p, 0, none⟩)))
    (fun i W h => h.2.1.nd) (fun i W W' h hA => ⟨h.1, h.2.1.aside hA, h.2.2.1.aside hA hs1, hA.cell h.2.2.2.1, hA.cell h.2.2.2.2⟩) (fun c W W' h hA => ⟨h.1, h.2.1, h.2.2.1.aside hA, h.2.2.2.1.aside hA hs1, hA.cell h.2.2.2.2⟩) ⟨Nat.zero_le _, hD.stays hb1, Frm.of_below hb1, hc1, hc2⟩ ?round ?done ?stop
  case round =>
    rintro l i W K hi ⟨hik, hDi, hFi, hbxi, hbyi⟩ hR
    obtain ⟨f, hfe⟩ : ∃ f, f = bufs.getD i noBuf := ⟨_, rfl⟩
    have hfm : f ∈ bufs := hfe ▸ getD_mem hi
    have hf := hDi.buf f hfm
    rw [laidTo_succ, ← hfe] at hR
    dsimp only
    rw [← hfe]
    unfold Buf.agg Buf.slice
    clear hfe
    gi_wp2
    refine hR _ _ ((KeepsOthers.alloc _ _).from _) (fun w₃ hA => ?_)
    have hba : Below W.heap.size W (W.alloc (.cells #[.int .i64 (f.at' : Int), .slice (some ⟨f.blk, 0, none⟩) f.xs.length f.cap] 91)) := (Below.refl _ _).alloc (Nat.le_refl _) _
    have hD3 := (hDi.stays hba).aside hA
    have hd0 : w₃.cell? ⟨W.heap.size, 0, none⟩ = some (.int .i64 (f.at' : Int)) := hA.cell (by simp)
    have hd1 : w₃.cell? ⟨W.heap.size, 1, none⟩ = some (.slice (some ⟨f.blk, 0, none⟩) f.xs.length f.cap) := hA.cell (by simp)
    have hbx3 := hA.cell (hba.cell (World.block_lt_of_cell? _ _ hbxi) ▸ hbxi)
    have hby3 := hA.cell (hba.cell (World.block_lt_of_cell? _ _ hbyi) ▸ hbyi)
    have hF3 := (hFi.trans (Frm.of_below hba)).aside hA hs1
    by_cases hik2 : i = ks.length
    · have hieq : ((i : Int) = (ks.length : Int)) = True := eq_true (by omega)
      gi_wp2
      exact ⟨KeepsFrom.refl _ _, rfl, by omega, hik2 ▸ hD3, hF3, hbx3⟩
    · have hlt : i < ks.length := by omega
      obtain ⟨b, o, rfl, hkc⟩ := (hK.frm hF3 hne).at hlt
      have hieq : ((i : Int) = (ks.length : Int)) = False := eq_false (by omega)
      have hlt' : (i : Int) < (ks.length : Int) := by omega
      obtain ⟨kn, hkn⟩ : ∃ kn, kn = ks.getD i 0 := ⟨_, rfl⟩
      rw [← hkn] at hkc hR
      have HKN : Hid (kn = ks.getD i 0) := hkn
      clear hkn
      have hcall := lay_run f kn w₃.drew hD3.drew (hD3.drew.buf f hfm).1 hf.2.1 hf.2.2
      unfold Buf.slice at hcall
      gi_wp2
      gi_region_with (gi_at_call 54; refine (CallsIn.inRound l (callsIn_wide.2 hcall)).mono ?_; rintro e w4 ⟨⟨_, rfl⟩, hD4, hb4⟩)
      all_goals exact ⟨keeps_but ((But.refl _ _).drew.trans hb4) (by omega), by omega, HKN.out ▸ hD4, (hF3.drew).trans (Frm.of_but hb4 (.inr rfl)), (World.cell?_of_block (hb4.block _ hpl2 (World.block_lt_of_cell? _ _ hbx3))).trans hbx3, (World.cell?_of_block (hb4.block _ hpl3 (World.block_lt_of_cell? _ _ hby3))).trans hby3⟩
  case done =>
    rintro W ⟨hik, hDW, hFW, hbxW, hbyW⟩ hK
    have hmin : min bufs.length ks.length = bufs.length := by omega
    rw [← hmin] at hDW
    obtain ⟨h0, h1, h2, h3, h4⟩ := hDW.fields
    have f1 := hDW.free 1
    gi_wp2
    obtain ⟨W1, hW1⟩ : ∃ W1, W1 = W.setCell ⟨p, 1, none⟩ (.slice none 0 0) := ⟨_, rfl⟩
    have hbs : But p W W1 := by rw [hW1]; exact (But.refl _ _).setCell _ _
    have hD1 : DkAt W1 p bl (.slice none 0 0) [] (laidTo laid bufs (fun k => ks.getD k 0) (min bufs.length ks.length)) off fused left := by rw [hW1]; exact hDW.clear hDW.lft ((But.refl _ _).setCell _ _) (hDW.blk.set 1 _)
    have hbx1 : W1.cell? ⟨w.heap.size, 0, none⟩ = some (.pointer (some ⟨p, 0, none⟩)) := (World.cell?_of_block (hbs.block _ hpw2 (World.block_lt_of_cell? _ _ hbxW))).trans hbxW
    have hK1 : W1.heap[w1.heap.size]? = some (.deferred (some [])) := (hbs.block _ (by omega) (Array.getElem?_eq_some_iff.1 hK).1).trans hK
    rw [← hW1]
    clear hW1 h0 h1 h2 h3 h4 f1 hDW
    obtain ⟨h0, h1, h2, h3, h4⟩ := hD1.fields
    have f2 := hD1.free 2
    have f3 := hD1.free 3
    have f4 := hD1.free 4
    refine wpIn_wide.2 ?_
    go_region
    obtain ⟨W2, hW2⟩ : ∃ W2, W2 = ((W1.setCell ⟨p, 2, none⟩ (.bool false)).setCell ⟨p, 3, none⟩ (.bool false)).setCell ⟨p, 4, none⟩ (.int .i64 0) := ⟨_, rfl⟩
    have hb2 : But p W1 W2 := by rw [hW2]; exact (((But.refl _ _).setCell _ _).setCell _ _).setCell _ _
    have hD2 : DkAt W2 p bl (.slice none 0 0) [] (laidTo laid bufs (fun k => ks.getD k 0) (min bufs.length ks.length)) false false 0 := hD1.flags (by omega) hb2 (by rw [hW2]; exact ((hD1.blk.set 2 _).set 3 _).set 4 _)
    have hK2 : W2.drew.heap[w1.heap.size]? = some (.deferred (some [])) := (hb2.block _ (by omega) (Array.getElem?_eq_some_iff.1 hK1).1).trans hK1
    have hA := Aside.put (B := w1.heap.size) (.deferred none) hK2 (Nat.le_refl _) rfl
    rw [← hW2]
    refine ⟨by simp, .inl ⟨_, _, rfl, run_takeDeferred hK2, ?_⟩⟩
    exact ⟨_, results_none rfl _ _ _, ⟨_, rfl⟩, hD2.drew.aside hA, (((hFW.trans (Frm.of_but hbs (.inl rfl))).trans (Frm.of_but hb2 (.inl rfl))).drew).aside hA hs1⟩
  case stop =>
    rintro c W ⟨rfl, hik, hDW, hFW, hbxW⟩ hK
    have hmin : min bufs.length ks.length = ks.length := by omega
    rw [← hmin] at hDW
    obtain ⟨h0, h1, h2, h3, h4⟩ := hDW.fields
    have f1 := hDW.free 1
    gi_wp2
    obtain ⟨W1, hW1⟩ : ∃ W1, W1 = W.setCell ⟨p, 1, none⟩ (.slice none 0 0) := ⟨_, rfl⟩
    have hbs : But p W W1 := by rw [hW1]; exact (But.refl _ _).setCell _ _
    have hD1 : DkAt W1 p bl (.slice none 0 0) [] (laidTo laid bufs (fun k => ks.getD k 0) (min bufs.length ks.length)) off fused left := by rw [hW1]; exact hDW.clear hDW.lft ((But.refl _ _).setCell _ _) (hDW.blk.set 1 _)
    have hbx1 : W1.cell? ⟨w.heap.size, 0, none⟩ = some (.pointer (some ⟨p, 0, none⟩)) := (World.cell?_of_block (hbs.block _ hpw2 (World.block_lt_of_cell? _ _ hbxW))).trans hbxW
    have hK1 : W1.heap[w1.heap.size]? = some (.deferred (some [])) := (hbs.block _ (by omega) (Array.getElem?_eq_some_iff.1 hK).1).trans hK
    rw [← hW1]
    clear hW1 h0 h1 h2 h3 h4 f1 hDW
    obtain ⟨h0, h1, h2, h3, h4⟩ := hD1.fields
    have f2 := hD1.free 2
    have f3 := hD1.free 3
    have f4 := hD1.free 4
    refine wpIn_wide.2 ?_
    go_region
    obtain ⟨W2, hW2⟩ : ∃ W2, W2 = ((W1.setCell ⟨p, 2, none⟩ (.bool false)).setCell ⟨p, 3, none⟩ (.bool false)).setCell ⟨p, 4, none⟩ (.int .i64 0) := ⟨_, rfl⟩
    have hb2 : But p W1 W2 := by rw [hW2]; exact (((But.refl _ _).setCell _ _).setCell _ _).setCell _ _
    have hD2 : DkAt W2 p bl (.slice none 0 0) [] (laidTo laid bufs (fun k => ks.getD k 0) (min bufs.length ks.length)) false false 0 := hD1.flags (by omega) hb2 (by rw [hW2]; exact ((hD1.blk.set 2 _).set 3 _).set 4 _)
    have hK2 : W2.drew.heap[w1.heap.size]? = some (.deferred (some [])) := (hb2.block _ (by omega) (Array.getElem?_eq_some_iff.1 hK1).1).trans hK1
    have hA := Aside.put (B := w1.heap.size) (.deferred none) hK2 (Nat.le_refl _) rfl
    rw [← hW2]
    refine ⟨by simp, .inl ⟨_, _, rfl, run_takeDeferred hK2, ?_⟩⟩
    exact ⟨_, results_none rfl _ _ _, ⟨_, rfl⟩, hD2.drew.aside hA, (((hFW.trans (Frm.of_but hbs (.inl rfl))).trans (Frm.of_but hb2 (.inl rfl))).drew).aside hA hs1⟩

end
end Go.Proofs.YthbcphalokoknaaDoor

/-
  Numbers and bytes that came in.
-/

namespace Go.Proofs.YthbcphalokoknaaDoor
set_option linter.unusedSimpArgs false
set_option linter.unusedVariables false
open Go.RowKit Go.ChangeShapes Go.WideShapes

section
variable {H : Type} {enc : TypeId × Value → H} {W : World} {base : Nat}

theorem open_is {fuel : Nat} {held : Bool} {cs : List Value} {x : DataW H × List MemPlace} (h : DataW.trod enc Tryd.prog W base (fun _ => true) held fuel 53 cs = some x) :
    ∃ a c ks, cs = [.slice a (List.length ks) c] ∧ Is W a ks ∧ ks.length ≤ 9223372036854775807 := by
  rcases open_ints Tryd.underlying53 Tryd.underlying3 (by kernel_rfl) h with ⟨hcs, _⟩ | ⟨x, l, c, zs, hcs, _, hl, hm, hz, _, hcell, hwz⟩
  · exact ⟨none, 0, [], by simpa using hcs, .inl rfl, by simp⟩
  · simp at hz
    have hlen : (zs.take l).length = l := by simp; omega
    unfold maxLen at hm
    refine ⟨some x, c, zs.take l, by rw [hlen]; exact hcs, ?_, by omega⟩
    by_cases h0 : l = 0
    · exact .inl (by simp [h0])
    · right
      obtain ⟨b, off, spot⟩ := x
      have hc0 := hcell 0 (by omega)
      have hspot : spot = none := by simpa [Addr.add] using World.cell?_spot hc0
      subst hspot
      refine ⟨b, off, rfl, fun i hi => ?_⟩
      rw [hlen] at hi
      have hci := hcell i (by omega)
      have hpl : (⟨b, off, none⟩ : Addr).add i = ⟨b, off + i, none⟩ := by unfold Addr.add; split <;> simp_all
      rw [hpl] at hci
      rw [hci]
      simp [List.getD, List.getElem?_take, hi]

theorem open_bs {fuel : Nat} {held : Bool} {cs : List Value} {x : DataW H × List MemPlace} (h : DataW.trod enc Tryd.prog W base (fun _ => true) held fuel 27 cs = some x) :
    ∃ a c xs, cs = [.slice a (List.length xs) c] ∧ Bs W a c xs := by
  have hr : ∃ a len cap zs, cs = [.slice a len cap] ∧ IsRow .u8 W a len cap zs := by
    rcases open_ints Tryd.underlying27 Tryd.underlying5 (by kernel_rfl) h with ⟨hcs, _⟩ | ⟨x, l, c, zs, hcs, _, hl, hm, hz, _, hcell, hwz⟩
    · exact ⟨none, 0, 0, [], by simpa using hcs, .inl ⟨rfl, rfl, rfl, rfl⟩⟩
    · exact ⟨some x, l, c, zs, hcs, .inr ⟨_, rfl, hl, hm, by simpa using hz, hcell, hwz⟩⟩
  obtain ⟨a, len, cap, zs, hcs, hr⟩ := hr
  obtain ⟨xs, rfl, hB⟩ := came hr
  exact ⟨a, cap, xs, hcs, hB⟩

theorem take1 {α : Type} {l : List α} {i : Nat} {x : α} (h : (l.drop i).take 1 = [x]) : l[i]? = some x := by
  have := congrArg (·[0]?) h
  simpa [List.getElem?_take, List.getElem?_drop] using this

end

end Go.Proofs.YthbcphalokoknaaDoor
