/-
 Package disk: Crash.
-/
import Derived.Test.YthbldjnpnligpaaDoorB09
import Derived.Stop.RegionWithIn
import Derived.BigRegionIn
import Derived.Sort.QuietIn
import Derived.BigRegion
import Derived.Deep.RegionLaw
import Derived.Deep.AppendLies
import Derived.Deep.Cut
import Derived.Deep.CutRange
namespace Go.Proofs.YthbldjnpnligpaaDoor
set_option linter.unusedSimpArgs false
set_option linter.unusedVariables false
set_option maxRecDepth 100000
open Go.RowKit
attribute [local go_sem] Oper.semAt_some wide_fn wide_depth round_fn round_depth
def Is (w : World) (a : Option Addr) (ks : List Int) : Prop := ks = [] ∨ ∃ b off, a = some ⟨b, off, none⟩ ∧ ∀ i, i < ks.length → w.cell? ⟨b, off + i, none⟩ = some (.int .i64 (ks.getD i 0))
theorem Is.at {w : World} {a : Option Addr} {ks : List Int} (h : Is w a ks) {k : Nat} (hk : k < ks.length) : ∃ b off, a = some ⟨b, off, none⟩ ∧ w.cell? ⟨b, off + k, none⟩ = some (.int .i64 (ks.getD k 0)) := by
 rcases h with rfl | ⟨b, off, rfl, hc⟩
 · simp at hk
 · exact ⟨b, off, rfl, hc k hk⟩
theorem Is.stays {w w' : World} {a : Option Addr} {ks : List Int} (h : Is w a ks) (hb : Below w.heap.size w w') : Is w' a ks := by
 rcases h with h | ⟨b, off, rfl, hc⟩
 · exact .inl h
 · refine .inr ⟨b, off, rfl, fun i hi => ?_⟩
   rw [hb.cell (World.block_lt_of_cell? w _ (hc i hi))]
   exact hc i hi
theorem Is.frm {w w' : World} {a : Option Addr} {ks : List Int} {F : Nat → Prop} (h : Is w a ks) (hb : Frm F w w') (hne : ks ≠ [] → ∀ x, a = some x → ¬ F x.block) : Is w' a ks := by
 rcases h with h | ⟨b, off, rfl, hc⟩
 · exact .inl h
 · refine .inr ⟨b, off, rfl, fun i hi => ?_⟩
   have h1 := hc i hi
   rw [World.cell?_of_block (w := w) (hb.block b (hne (fun h => by rw [h] at hi; simp at hi) _ rfl) (World.block_lt_of_cell? w _ h1))]
   exact h1
section
variable {p bl : Nat} {v : Value} {bufs : List Buf} {laid : List Int} {off fused : Bool} {left : Nat}
set_option maxRecDepth 100000 in
set_option maxHeartbeats 1000000 in
theorem crash_run (w : World) (ka : Option Addr) (kc : Nat) (ks : List Int) (hD : DkAt w p bl v bufs laid off fused left) (hlen : bufs.length ≤ 1000000) (hK : Is w ka ks) (hkl : ks.length ≤ 140737488351232) (hne : ks ≠ [] → ∀ x, ka = some x → ¬ Two p bl x.block) :
 Calls Tryd.prog 57 #[.pointer (some ⟨p, 0, none⟩), .slice ka ks.length kc] w fun e w' => (∃ v, e = .returned v) ∧ DkAt w' p bl (.slice none 0 0) [] (laidTo laid bufs (fun k => ks.getD k 0) (min bufs.length ks.length)) false false 0 ∧ Frm (Two p bl) w w' := by
 refine (callsIn_wide (n := 0)).1 (callsIn_of_wp_marks Tryd.func57 rfl trivial ?_ rfl)
 simp only [Tryd.ntmps57, List.size_toArray, List.length_cons, List.length_nil, Nat.reduceAdd, Nat.reduceSub, Array.replicate_succ, Array.replicate_zero, List.push_toArray, List.append_toArray, List.nil_append, List.cons_append]
 have hpw : p < w.heap.size := hD.blk.lt
 have hpl : bl < w.heap.size := hD.row.lt
 have hpl2 : w.heap.size ≠ bl := by omega
 have hpw2 : w.heap.size ≠ p := by omega
 have hpl3 : w.heap.size + 1 ≠ bl := by omega
 gi_wp2
 obtain ⟨w1, hw1⟩ : ∃ w1, w1 = (w.alloc (.cells #[.pointer (some ⟨p, 0, none⟩)] 24)).alloc (.cells #[.slice ka ks.length kc] 71) := ⟨_, rfl⟩
 have hb1 : Below w.heap.size w w1 := by rw [hw1]; exact ((Below.refl _ _).alloc (Nat.le_refl _) _).alloc (by simp) _
 have hc1 : w1.cell? ⟨w.heap.size, 0, none⟩ = some (.pointer (some ⟨p, 0, none⟩)) := by rw [hw1]; simp
 have hc2 : w1.cell? ⟨w.heap.size + 1, 0, none⟩ = some (.slice ka ks.length kc) := by rw [hw1]; simp
 rw [← hw1]
 have hs1 : w.heap.size ≤ w1.heap.size := hb1.size
 clear hw1
 refine wpIn_range_bound 90 (.pointer (some ⟨p, 0, none⟩)) rfl (enters_of Tryd.func90 (by kernel_rfl) rfl) bufs.length (fun i => #[.int .i64 (i : Int), (bufs.getD i noBuf).agg]) (Nd p v bufs) (fun W h => oldest_iter p v bufs hlen W h) (fun _ => rfl)
  (fun i W => i ≤ ks.length ∧ DkAt W p bl v bufs (laidTo laid bufs (fun k => ks.getD k 0) i) off fused left ∧ Frm (Two p bl) w W ∧ W.cell? ⟨w.heap.size, 0, none⟩ = some (.pointer (some ⟨p, 0, none⟩)) ∧ W.cell? ⟨w.heap.size + 1, 0, none⟩ = some (.slice ka ks.length kc))
  (fun c W => c = .exit 0 ∧ ks.length < bufs.length ∧ DkAt W p bl v bufs (laidTo laid bufs (fun k => ks.getD k 0) ks.length) off fused left ∧ Frm (Two p bl) w W ∧ W.cell? ⟨w.heap.size, 0, none⟩ = some (.pointer (some ⟨p, 0, none⟩)))
  (fun i W h => h.2.1.nd) (fun i W W' h hA => ⟨h.1, h.2.1.aside hA, h.2.2.1.aside hA hs1, hA.cell h.2.2.2.1, hA.cell h.2.2.2.2⟩) (fun c W W' h hA => ⟨h.1, h.2.1, h.2.2.1.aside hA, h.2.2.2.1.aside hA hs1, hA.cell h.2.2.2.2⟩) ⟨Nat.zero_le _, hD.stays hb1, Frm.of_below hb1, hc1, hc2⟩ ?round ?done ?stop
 case round =>
  rintro l i W K hi ⟨hik, hDi, hFi, hbxi, hbyi⟩ hR
  obtain ⟨f, hfe⟩ : ∃ f, f = bufs.getD i noBuf := ⟨_, rfl⟩
  have hfm : f ∈ bufs := hfe ▸ getD_mem hi
  have hf := hDi.buf f hfm
  rw [laidTo_succ, ← hfe] at hR
  dsimp only
  rw [← hfe]
  unfold Buf.agg Buf.slice
  clear hfe
  gi_wp2
  refine hR _ _ ((KeepsOthers.alloc _ _).from _) (fun w₃ hA => ?_)
  have hba : Below W.heap.size W (W.alloc (.cells #[.int .i64 (f.at' : Int), .slice (some ⟨f.blk, 0, none⟩) f.xs.length f.cap] 159)) := (Below.refl _ _).alloc (Nat.le_refl _) _
  have hD3 := (hDi.stays hba).aside hA
  have hd0 : w₃.cell? ⟨W.heap.size, 0, none⟩ = some (.int .i64 (f.at' : Int)) := hA.cell (by simp)
  have hd1 : w₃.cell? ⟨W.heap.size, 1, none⟩ = some (.slice (some ⟨f.blk, 0, none⟩) f.xs.length f.cap) := hA.cell (by simp)
  have hbx3 := hA.cell (hba.cell (World.block_lt_of_cell? _ _ hbxi) ▸ hbxi)
  have hby3 := hA.cell (hba.cell (World.block_lt_of_cell? _ _ hbyi) ▸ hbyi)
  have hF3 := (hFi.trans (Frm.of_below hba)).aside hA hs1
  by_cases hik2 : i = ks.length
  · have hieq : ((i : Int) = (ks.length : Int)) = True := eq_true (by omega)
    gi_wp2
    exact ⟨KeepsFrom.refl _ _, rfl, by omega, hik2 ▸ hD3, hF3, hbx3⟩
  · have hlt : i < ks.length := by omega
    obtain ⟨b, o, rfl, hkc⟩ := (hK.frm hF3 hne).at hlt
    have hieq : ((i : Int) = (ks.length : Int)) = False := eq_false (by omega)
    have hlt' : (i : Int) < (ks.length : Int) := by omega
    obtain ⟨kn, hkn⟩ : ∃ kn, kn = ks.getD i 0 := ⟨_, rfl⟩
    rw [← hkn] at hkc hR
    have HKN : Hid (kn = ks.getD i 0) := hkn
    clear hkn
    have hcall := lay_run f kn w₃.drew hD3.drew (hD3.drew.buf f hfm).1 hf.2.1 hf.2.2
    unfold Buf.slice at hcall
    gi_wp2
    gi_region_with (gi_at_call 91; refine (CallsIn.inRound l (callsIn_wide.2 hcall)).mono ?_; rintro e w4 ⟨⟨_, rfl⟩, hD4, hb4⟩)
    all_goals exact ⟨keeps_but ((But.refl _ _).drew.trans hb4) (by omega), by omega, HKN.out ▸ hD4, (hF3.drew).trans (Frm.of_but hb4 (.inr rfl)), (World.cell?_of_block (hb4.block _ hpl2 (World.block_lt_of_cell? _ _ hbx3))).trans hbx3, (World.cell?_of_block (hb4.block _ hpl3 (World.block_lt_of_cell? _ _ hby3))).trans hby3⟩
 case done =>
  rintro W ⟨hik, hDW, hFW, hbxW, hbyW⟩ hK
  have hmin : min bufs.length ks.length = bufs.length := by omega
  rw [← hmin] at hDW
  obtain ⟨h0, h1, h2, h3, h4⟩ := hDW.fields
  have f1 := hDW.free 1
  gi_wp2
  obtain ⟨W1, hW1⟩ : ∃ W1, W1 = W.setCell ⟨p, 1, none⟩ (.slice none 0 0) := ⟨_, rfl⟩
  have hbs : But p W W1 := by rw [hW1]; exact (But.refl _ _).setCell _ _
  have hD1 : DkAt W1 p bl (.slice none 0 0) [] (laidTo laid bufs (fun k => ks.getD k 0) (min bufs.length ks.length)) off fused left := by rw [hW1]; exact hDW.clear hDW.lft ((But.refl _ _).setCell _ _) (hDW.blk.set 1 _)
  have hbx1 : W1.cell? ⟨w.heap.size, 0, none⟩ = some (.pointer (some ⟨p, 0, none⟩)) := (World.cell?_of_block (hbs.block _ hpw2 (World.block_lt_of_cell? _ _ hbxW))).trans hbxW
  have hK1 : W1.heap[w1.heap.size]? = some (.deferred (some [])) := (hbs.block _ (by omega) (Array.getElem?_eq_some_iff.1 hK).1).trans hK
  rw [← hW1]
  clear hW1 h0 h1 h2 h3 h4 f1 hDW
  obtain ⟨h0, h1, h2, h3, h4⟩ := hD1.fields
  have f2 := hD1.free 2
  have f3 := hD1.free 3
  have f4 := hD1.free 4
  refine wpIn_wide.2 ?_
  go_region
  obtain ⟨W2, hW2⟩ : ∃ W2, W2 = ((W1.setCell ⟨p, 2, none⟩ (.bool false)).setCell ⟨p, 3, none⟩ (.bool false)).setCell ⟨p, 4, none⟩ (.int .i64 0) := ⟨_, rfl⟩
  have hb2 : But p W1 W2 := by rw [hW2]; exact (((But.refl _ _).setCell _ _).setCell _ _).setCell _ _
  have hD2 : DkAt W2 p bl (.slice none 0 0) [] (laidTo laid bufs (fun k => ks.getD k 0) (min bufs.length ks.length)) false false 0 := hD1.flags (by omega) hb2 (by rw [hW2]; exact ((hD1.blk.set 2 _).set 3 _).set 4 _)
  have hK2 : W2.drew.heap[w1.heap.size]? = some (.deferred (some [])) := (hb2.block _ (by omega) (Array.getElem?_eq_some_iff.1 hK1).1).trans hK1
  have hA := Aside.put (B := w1.heap.size) (.deferred none) hK2 (Nat.le_refl _) rfl
  rw [← hW2]
  refine ⟨by simp, .inl ⟨_, _, rfl, run_takeDeferred hK2, ?_⟩⟩
  exact ⟨_, results_none rfl _ _ _, ⟨_, rfl⟩, hD2.drew.aside hA, (((hFW.trans (Frm.of_but hbs (.inl rfl))).trans (Frm.of_but hb2 (.inl rfl))).drew).aside hA hs1⟩
 case stop =>
  rintro c W ⟨rfl, hik, hDW, hFW, hbxW⟩ hK
  have hmin : min bufs.length ks.length = ks.length := by omega
  rw [← hmin] at hDW
  obtain ⟨h0, h1, h2, h3, h4⟩ := hDW.fields
  have f1 := hDW.free 1
  gi_wp2
  obtain ⟨W1, hW1⟩ : ∃ W1, W1 = W.setCell ⟨p, 1, none⟩ (.slice none 0 0) := ⟨_, rfl⟩
  have hbs : But p W W1 := by rw [hW1]; exact (But.refl _ _).setCell _ _
  have hD1 : DkAt W1 p bl (.slice none 0 0) [] (laidTo laid bufs (fun k => ks.getD k 0) (min bufs.length ks.length)) off fused left := by rw [hW1]; exact hDW.clear hDW.lft ((But.refl _ _).setCell _ _) (hDW.blk.set 1 _)
  have hbx1 : W1.cell? ⟨w.heap.size, 0, none⟩ = some (.pointer (some ⟨p, 0, none⟩)) := (World.cell?_of_block (hbs.block _ hpw2 (World.block_lt_of_cell? _ _ hbxW))).trans hbxW
  have hK1 : W1.heap[w1.heap.size]? = some (.deferred (some [])) := (hbs.block _ (by omega) (Array.getElem?_eq_some_iff.1 hK).1).trans hK
  rw [← hW1]
  clear hW1 h0 h1 h2 h3 h4 f1 hDW
  obtain ⟨h0, h1, h2, h3, h4⟩ := hD1.fields
  have f2 := hD1.free 2
  have f3 := hD1.free 3
  have f4 := hD1.free 4
  refine wpIn_wide.2 ?_
  go_region
  obtain ⟨W2, hW2⟩ : ∃ W2, W2 = ((W1.setCell ⟨p, 2, none⟩ (.bool false)).setCell ⟨p, 3, none⟩ (.bool false)).setCell ⟨p, 4, none⟩ (.int .i64 0) := ⟨_, rfl⟩
  have hb2 : But p W1 W2 := by rw [hW2]; exact (((But.refl _ _).setCell _ _).setCell _ _).setCell _ _
  have hD2 : DkAt W2 p bl (.slice none 0 0) [] (laidTo laid bufs (fun k => ks.getD k 0) (min bufs.length ks.length)) false false 0 := hD1.flags (by omega) hb2 (by rw [hW2]; exact ((hD1.blk.set 2 _).set 3 _).set 4 _)
  have hK2 : W2.drew.heap[w1.heap.size]? = some (.deferred (some [])) := (hb2.block _ (by omega) (Array.getElem?_eq_some_iff.1 hK1).1).trans hK1
  have hA := Aside.put (B := w1.heap.size) (.deferred none) hK2 (Nat.le_refl _) rfl
  rw [← hW2]
  refine ⟨by simp, .inl ⟨_, _, rfl, run_takeDeferred hK2, ?_⟩⟩
  exact ⟨_, results_none rfl _ _ _, ⟨_, rfl⟩, hD2.drew.aside hA, (((hFW.trans (Frm.of_but hbs (.inl rfl))).trans (Frm.of_but hb2 (.inl rfl))).drew).aside hA hs1⟩
end
end Go.Proofs.YthbldjnpnligpaaDoor

/-
 Package disk: Read.
-/

namespace Go.Proofs.YthbldjnpnligpaaDoor
set_option linter.unusedSimpArgs false
set_option linter.unusedVariables false
set_option maxRecDepth 100000
open Go.RowKit
attribute [local go_sem] Oper.semAt_some wide_fn wide_depth round_fn round_depth
theorem results_cells2 {fn : Func} {p q : Tmp} {t u : TypeId} (h : fn.results = #[.cell p t, .cell q u]) (tmps : Array Value) (P : Program) (w : World) {a b : Addr} {x y : Value}
 (hp : tmps.getD p undef = .pointer (some a)) (hq : tmps.getD q undef = .pointer (some b)) (hx : (loadVar t a).run P w = .ok x w) (hy : (loadVar u b).run P w = .ok y w) :
 (results fn tmps).run P w = .ok (.tuple #[x, y]) w := by
 rw [Array.getD_eq_getD_getElem?] at hp hq
 simp [results, h, hp, hq, asAddr, Sem.run_bind, hx, hy]
def secOf (laid : List Int) (s : Nat) : List Int := (laid.drop (256 * s)).take 256
def readOf (laid : List Int) (bufs : List Buf) (s : Nat) : List Int := ((bufs.reverse.find? fun f => f.at' == s).map (·.xs)).getD (secOf laid s)
theorem secOf_length {laid : List Int} {s : Nat} (h : 256 * s + 256 ≤ laid.length) : (secOf laid s).length = 256 := by unfold secOf; simp; omega
section
variable {p bl : Nat} {v : Value} {bufs : List Buf} {laid : List Int} {off fused : Bool} {left : Nat}
theorem owns_aside {w w' : World} {B base : Nat} {e : TypeId} {s : Nat} {v : Value} {n : Nat} {xs : List Value} (h : w.ownsRow base e s v n xs) (hA : Aside B w w') : w'.ownsRow base e s v n xs :=
 owns_keep h (fun k e => by obtain ⟨cs, hc⟩ := own_type h e; exact hA.block k (Array.getElem?_eq_some_iff.1 hc).1 (.inr ⟨_, hc, rfl⟩))
theorem below_aside {a b c : World} {B : Nat} (h : Below a.heap.size a b) (hA : Aside B b c) (hB : a.heap.size ≤ B) : Below a.heap.size a c :=
 ⟨hA.os.trans h.os, hA.tape.trans h.tape, hA.output.trans h.output, Nat.le_trans h.size hA.size, fun i hl => (hA.block i (Nat.lt_of_lt_of_le hl h.size) (.inl (by omega))).trans (h.block i hl)⟩
theorem sector_bs {w : World} (h : DkAt w p bl v bufs laid off fused left) {s : Nat} (hs : 256 * s + 256 ≤ laid.length) : Bs w (some ⟨bl, 256 * s, none⟩) (laid.length - 256 * s) (secOf laid s) := by
 obtain ⟨n, hn, hn1, hn2⟩ := h.siz
 refine ⟨fun x hx => h.rng x (List.mem_of_mem_drop (List.mem_of_mem_take hx)), by rw [secOf_length hs]; omega, by unfold maxLen; omega, by simp, .inr ⟨bl, 256 * s, rfl, fun i hi => ?_⟩⟩
 rw [secOf_length hs] at hi
 rw [h.row.cell (256 * s + i) (by omega)]
 simp [secOf, List.getD, List.getElem?_take, hi, List.getElem?_drop]
theorem load_slice {w : World} {a : Addr} {x : Value} (h : w.cell? a = some x) : (loadVar 43 a).run Tryd.prog w = .ok x w := by
 go_simp
theorem load_errno {w : World} {a : Addr} {x : Value} (h : w.cell? a = some x) : (loadVar 47 a).run Tryd.prog w = .ok x w := by
 go_simp
theorem Blk.aside {e : TypeId} {w w' : World} {g B : Nat} {vs : List Value} (h : Blk e w g vs) (hA : Aside B w w') : Blk e w' g vs := by
 have := h.lt
 unfold Blk at *
 rw [hA.block g this (.inr ⟨_, h, rfl⟩)]; exact h
set_option maxRecDepth 100000 in
set_option maxHeartbeats 4000000 in
theorem read_off (i : Int) (w : World) (hD : DkAt w p bl v bufs laid true fused left) :
 Calls Tryd.prog 142 #[.pointer (some ⟨p, 0, none⟩), .int .i64 i] w fun e w' => e = .returned (.tuple #[.slice none 0 0, .int .i64 8]) ∧ Below w.heap.size w w' := by
 refine (callsIn_wide (n := 0)).1 (callsIn_of_wp_marks Tryd.func142 rfl trivial ?_ rfl)
 simp only [Tryd.ntmps142, List.size_toArray, List.length_cons, List.length_nil, Nat.reduceAdd, Nat.reduceSub, Array.replicate_succ, Array.replicate_zero, List.push_toArray, List.append_toArray, List.nil_append, List.cons_append]
 have hb1 : Below w.heap.size w (((w.alloc (.cells #[.int .i64 i] 3)).alloc (.cells #[.slice none 0 0] 43)).alloc (.cells #[.int .i64 0] 47)) := (((Below.refl _ _).alloc (Nat.le_refl _) _).alloc (by simp) _).alloc (by simp; omega) _
 have hD1 := hD.stays hb1
 gi_wp2_with (first
  | (gi_at_call 88; refine (callsIn_wide.2 (down_run _ hD1)).mono ?_; rintro e w' ⟨rfl, rfl⟩))
 have c1 : (((w.alloc (.cells #[.int .i64 i] 3)).alloc (.cells #[.slice none 0 0] 43)).alloc (.cells #[.int .i64 8] 47)).cell? ⟨w.heap.size + 1, 0, none⟩ = some (.slice none 0 0) := (Blk.alloc (Blk.newAt (vs := [.slice none 0 0]) (by simp) rfl) _).cell 0
 have c2 : (((w.alloc (.cells #[.int .i64 i] 3)).alloc (.cells #[.slice none 0 0] 43)).alloc (.cells #[.int .i64 8] 47)).cell? ⟨w.heap.size + 1 + 1, 0, none⟩ = some (.int .i64 8) := (Blk.newAt (vs := [.int .i64 8]) (by simp) rfl).cell 0
 exact ⟨_, results_cells2 rfl _ _ _ rfl rfl (load_slice c1) (load_errno c2), rfl, (((Below.refl _ _).alloc (Nat.le_refl _) _).alloc (by simp) _).alloc (by simp; omega) _⟩
set_option maxRecDepth 100000 in
set_option maxHeartbeats 4000000 in
theorem read_arg (i : Int) (w : World) (hD : DkAt w p bl v bufs laid false fused left) (hi : ¬ (0 ≤ i ∧ i < ((laid.length / 256 : Nat) : Int))) :
 Calls Tryd.prog 142 #[.pointer (some ⟨p, 0, none⟩), .int .i64 i] w fun e w' => e = .returned (.tuple #[.slice none 0 0, .int .i64 1]) ∧ Below w.heap.size w w' := by
 refine (callsIn_wide (n := 0)).1 (callsIn_of_wp_marks Tryd.func142 rfl trivial ?_ rfl)
 simp only [Tryd.ntmps142, List.size_toArray, List.length_cons, List.length_nil, Nat.reduceAdd, Nat.reduceSub, Array.replicate_succ, Array.replicate_zero, List.push_toArray, List.append_toArray, List.nil_append, List.cons_append]
 have hb1 : Below w.heap.size w (((w.alloc (.cells #[.int .i64 i] 3)).alloc (.cells #[.slice none 0 0] 43)).alloc (.cells #[.int .i64 0] 47)) := (((Below.refl _ _).alloc (Nat.le_refl _) _).alloc (by simp) _).alloc (by simp; omega) _
 have hD1 := hD.stays hb1
 have hcall := has_run i _ hD1
 rw [decide_eq_false hi] at hcall
 clear hi
 gi_wp2_with (first
  | (gi_at_call 88; refine (callsIn_wide.2 (down_run _ hD1)).mono ?_; rintro e w' ⟨rfl, rfl⟩)
  | (gi_at_call 92; refine (callsIn_wide.2 hcall).mono ?_; rintro e w' ⟨rfl, rfl⟩))
 have c1 : (((w.alloc (.cells #[.int .i64 i] 3)).alloc (.cells #[.slice none 0 0] 43)).alloc (.cells #[.int .i64 1] 47)).cell? ⟨w.heap.size + 1, 0, none⟩ = some (.slice none 0 0) := (Blk.alloc (Blk.newAt (vs := [.slice none 0 0]) (by simp) rfl) _).cell 0
 have c2 : (((w.alloc (.cells #[.int .i64 i] 3)).alloc (.cells #[.slice none 0 0] 43)).alloc (.cells #[.int .i64 1] 47)).cell? ⟨w.heap.size + 1 + 1, 0, none⟩ = some (.int .i64 1) := (Blk.newAt (vs := [.int .i64 1]) (by simp) rfl).cell 0
 exact ⟨_, results_cells2 rfl _ _ _ rfl rfl (load_slice c1) (load_errno c2), rfl, (((Below.refl _ _).alloc (Nat.le_refl _) _).alloc (by simp) _).alloc (by simp; omega) _⟩
theorem read_step {s k : Nat} (hk : k < bufs.length) (hno : ∀ f ∈ bufs.drop (k + 1), f.at' ≠ s) (hat : (bufs.getD k noBuf).at' = s) : readOf laid bufs s = (bufs.getD k noBuf).xs := by
 have e : bufs = bufs.take k ++ bufs.getD k noBuf :: bufs.drop (k + 1) := by
  rw [List.getD_eq_getElem?_getD, List.getElem?_eq_getElem hk, Option.getD_some, ← List.drop_eq_getElem_cons hk, List.take_append_drop]
 unfold readOf
 generalize bufs.getD k noBuf = f at *
 have h0 : bufs.reverse = (bufs.drop (k + 1)).reverse ++ ([f] ++ (bufs.take k).reverse) := by
  conv => lhs; rw [e]
  simp
 rw [h0, List.find?_append]
 have h1 : (bufs.drop (k + 1)).reverse.find? (fun f => f.at' == s) = none := by
  rw [List.find?_eq_none]
  intro f hf
  simpa using hno f (by simpa using hf)
 rw [h1]
 simp only [Option.none_or, List.singleton_append, List.find?_cons]
 rw [hat]
 simp
theorem read_none {s : Nat} (hno : ∀ f ∈ bufs, f.at' ≠ s) : readOf laid bufs s = secOf laid s := by
 unfold readOf
 have h1 : bufs.reverse.find? (fun f => f.at' == s) = none := by
  rw [List.find?_eq_none]
  intro f hf
  simpa using hno f (by simpa using hf)
 rw [h1]; rfl
theorem owns_mono {w : World} {base base' : Nat} {e : TypeId} {s : Nat} {v : Value} {n : Nat} {xs : List Value} (h : w.ownsRow base e s v n xs) (hb : base' ≤ base) : w.ownsRow base' e s v n xs := by
 obtain ⟨h1, h2⟩ := h
 refine ⟨h1, ?_⟩
 rcases h2 with h2 | ⟨g, cap, cur, rfl, hg, rest⟩
 · exact .inl h2
 · exact .inr ⟨g, cap, cur, rfl, by omega, rest⟩
theorem two_cells {w w3 w4 : World} {g cap n B : Nat} {xs : List Value} (hb3 : Below w.heap.size w w3) (hb4 : Below w3.heap.size w3 w4) (hs3 : w.heap.size + 3 ≤ w3.heap.size) (hown : w4.ownsRow w3.heap.size 5 1 (.slice (some ⟨g, 0, none⟩) n cap) n xs)
 {y z : Value} (hy : Blk 43 w3 (w.heap.size + 1) [y]) (hz : Blk 47 w3 (w.heap.size + 2) [z]) (x1 x2 : Value) {W : World} (hW : W = (w4.setCell ⟨w.heap.size + 1, 0, none⟩ x1).setCell ⟨w.heap.size + 1 + 1, 0, none⟩ x2) :
 KeepsFrom B w3 W ∧ W.ownsRow w.heap.size 5 1 (.slice (some ⟨g, 0, none⟩) n cap) n xs ∧ Below w.heap.size w W ∧ Blk 43 W (w.heap.size + 1) [x1] ∧ Blk 47 W (w.heap.size + 2) [x2] := by
 subst hW
 have hg := (hown.lt g rfl).1
 have hb : Below w.heap.size w w4 := hb3.trans (hb4.mono hb3.size)
 refine ⟨?_, ?_, ?_, ?_, ?_⟩
 · exact (KeepsFrom.trans ⟨hb4.size, fun k o _ hk _ => (hb4.block k (Array.getElem?_eq_some_iff.1 hk).1).trans hk⟩ ((KeepsOthers.setCell _ _ _).from _)).trans ((KeepsOthers.setCell _ _ _).from _)
 · refine owns_keep (owns_mono hown (by omega)) (fun k e => ?_)
   simp [Value.ownBlock] at e
   subst e
   rw [Below.heap_setCell _ _ _ _ (by simp; omega), Below.heap_setCell _ _ _ _ (by simp; omega)]
 · exact (hb.setCell (p := ⟨w.heap.size + 1, 0, none⟩) (by simp) _).setCell (p := ⟨w.heap.size + 1 + 1, 0, none⟩) (by simp; omega) _
 · have := (hy.stays hb4).set 0 x1
   unfold Blk at *
   rw [Below.heap_setCell _ _ _ _ (by simp)]
   exact this
 · have h1 : Blk 47 (w4.setCell ⟨w.heap.size + 1, 0, none⟩ x1) (w.heap.size + 2) [z] := by
    have := hz.stays hb4
    unfold Blk at *
    rw [Below.heap_setCell _ _ _ _ (by simp)]
    exact this
   exact h1.set 0 x2
set_option maxRecDepth 100000 in
set_option maxHeartbeats 4000000 in
theorem read_done (s : Nat) (w : World) (hD : DkAt w p bl v bufs laid false fused left) (hlen : bufs.length ≤ 1000000) (hs : 256 * s + 256 ≤ laid.length) :
 Calls Tryd.prog 142 #[.pointer (some ⟨p, 0, none⟩), .int .i64 (s : Int)] w fun e w' => ∃ g cap, e = .returned (.tuple #[.slice (some ⟨g, 0, none⟩) 256 cap, .int .i64 0]) ∧
  w'.ownsRow w.heap.size 5 1 (.slice (some ⟨g, 0, none⟩) 256 cap) 256 ((readOf laid bufs s).map (Value.int .u8)) ∧ Below w.heap.size w w' := by
 refine (callsIn_wide (n := 0)).1 (callsIn_of_wp_marks Tryd.func142 rfl trivial ?_ rfl)
 simp only [Tryd.ntmps142, List.size_toArray, List.length_cons, List.length_nil, Nat.reduceAdd, Nat.reduceSub, Array.replicate_succ, Array.replicate_zero, List.push_toArray, List.append_toArray, List.nil_append, List.cons_append]
 obtain ⟨w1, hw1⟩ : ∃ w1, w1 = ((w.alloc (.cells #[.int .i64 (s : Int)] 3)).alloc (.cells #[.slice none 0 0] 43)).alloc (.cells #[.int .i64 0] 47) := ⟨_, rfl⟩
 have hb1 : Below w.heap.size w w1 := by rw [hw1]; exact (((Below.refl _ _).alloc (Nat.le_refl _) _).alloc (by simp) _).alloc (by simp; omega) _
 have hx1 : Blk 3 w1 w.heap.size [.int .i64 (s : Int)] := by rw [hw1]; exact ((Blk.newAt rfl rfl).alloc _).alloc _
 have hy1 : Blk 43 w1 (w.heap.size + 1) [.slice none 0 0] := by rw [hw1]; exact (Blk.newAt (by simp) rfl).alloc _
 have hz1 : Blk 47 w1 (w.heap.size + 2) [.int .i64 0] := by rw [hw1]; exact Blk.newAt (by simp) rfl
 have hs1 : w.heap.size + 3 ≤ w1.heap.size := by rw [hw1]; simp
 have hD1 := hD.stays hb1
 have hcx1 : w1.cell? ⟨w.heap.size, 0, none⟩ = some (.int .i64 (s : Int)) := hx1.cell 0
 have hcall := has_run (s : Int) _ hD1
 rw [decide_eq_true (by omega)] at hcall
 have HW1 : Hid (w1 = _) := hw1
 clear hw1
 gi_wp2_with (first
  | (gi_at_call 88; rw [← HW1.out]; refine (callsIn_wide.2 (down_run _ hD1)).mono ?_; rintro e w' ⟨rfl, rfl⟩)
  | (gi_at_call 92; refine (callsIn_wide.2 hcall).mono ?_; rintro e w' ⟨rfl, rfl⟩))
 refine wpIn_range_bound 166 (.pointer (some ⟨p, 0, none⟩)) rfl (enters_of Tryd.func166 (by kernel_rfl) rfl) bufs.length (fun i => #[(bufs.getD (bufs.length - 1 - i) noBuf).agg]) (Nd p v bufs) (fun W h => newest_iter p v bufs hlen W h) (fun _ => rfl)
  (fun i W => (∀ f ∈ bufs.drop (bufs.length - i), f.at' ≠ s) ∧ DkAt W p bl v bufs laid false fused left ∧ Below w.heap.size w W ∧ Blk 3 W w.heap.size [.int .i64 (s : Int)] ∧ Blk 43 W (w.heap.size + 1) [.slice none 0 0] ∧ Blk 47 W (w.heap.size + 2) [.int .i64 0])
  (fun c W => c = .ret ∧ ∃ g cap, W.ownsRow w.heap.size 5 1 (.slice (some ⟨g, 0, none⟩) 256 cap) 256 ((readOf laid bufs s).map (Value.int .u8)) ∧ Below w.heap.size w W ∧ Blk 43 W (w.heap.size + 1) [.slice (some ⟨g, 0, none⟩) 256 cap] ∧ Blk 47 W (w.heap.size + 2) [.int .i64 0])
  (fun i W h => h.2.1.nd) (fun i W W' h hA => ⟨h.1, h.2.1.aside hA, below_aside h.2.2.1 hA (by omega), h.2.2.2.1.aside hA, h.2.2.2.2.1.aside hA, h.2.2.2.2.2.aside hA⟩)
  (fun c W W' h hA => by obtain ⟨hc, g, cap, h1, h2, h3, h4⟩ := h; exact ⟨hc, g, cap, owns_aside h1 hA, below_aside h2 hA (by omega), h3.aside hA, h4.aside hA⟩)
  ⟨by simp, hD1, hb1, hx1, hy1, hz1⟩ ?round ?done ?stop
 case round =>
  rintro l i W K hi ⟨hno, hDi, hbi, hxi, hyi, hzi⟩ hR
  obtain ⟨k, hk⟩ : ∃ k, k = bufs.length - 1 - i := ⟨_, rfl⟩
  have hkl : k < bufs.length := by omega
  obtain ⟨f, hfe⟩ : ∃ f, f = bufs.getD k noBuf := ⟨_, rfl⟩
  have hfm : f ∈ bufs := hfe ▸ getD_mem hkl
  have hf := hDi.buf f hfm
  have hfl := hf.1.len
  have hk1 : bufs.length - i = k + 1 := by omega
  have hk2 : bufs.length - (i + 1) = k := by omega
  rw [hk1] at hno
  rw [hk2] at hR
  dsimp only
  rw [← hk, ← hfe]
  unfold Buf.agg Buf.slice
  rw [hfl]
  have HFE : Hid (f = bufs.getD k noBuf) := hfe
  clear hfe hk hk1 hk2
  gi_wp2
  refine hR _ _ ((KeepsOthers.alloc _ _).from _) (fun w₃ hA => ?_)
  have hba : Below W.heap.size W (W.alloc (.cells #[.int .i64 (f.at' : Int), .slice (some ⟨f.blk, 0, none⟩) 256 f.cap] 159)) := (Below.refl _ _).alloc (Nat.le_refl _) _
  have hD3 := (hDi.stays hba).aside hA
  have hd0 : w₃.cell? ⟨W.heap.size, 0, none⟩ = some (.int .i64 (f.at' : Int)) := hA.cell (by simp)
  have hd1 : w₃.cell? ⟨W.heap.size, 1, none⟩ = some (.slice (some ⟨f.blk, 0, none⟩) 256 f.cap) := hA.cell (by simp)
  have hx3 := (hxi.stays hba).aside hA
  have hy3 := (hyi.stays hba).aside hA
  have hz3 := (hzi.stays hba).aside hA
  have hb3 : Below w.heap.size w w₃ := below_aside (hbi.trans (hba.mono hbi.size)) hA (by omega)
  have hcx3 : w₃.cell? ⟨w.heap.size, 0, none⟩ = some (.int .i64 (s : Int)) := hx3.cell 0
  clear hR
  by_cases hat : f.at' = s
  · have hieq : ((f.at' : Int) = (s : Int)) = True := eq_true (by omega)
    have hcall := clone_run ⟨f.blk, 0, none⟩ f.cap f.xs w₃ (hD3.buf f hfm).1.bs (by omega) (by omega)
    rw [hfl] at hcall
    gi_wp2_with (gi_at_call 67; refine (CallsIn.inRound l (callsIn_wide.2 hcall)).mono ?_; rintro e w4 ⟨g, cap, rfl, hown, hb4⟩; have hy4 := hy3.stays hb4; have hz4 := hz3.stays hb4; have hcy4 := hy4.cell 0; have hfy4 := hy4.free 0; have hcz4 := hz4.cell 0; have hfz4 := hz4.free 0)
    have hrd := read_step (laid := laid) hkl hno (HFE.out ▸ hat)
    rw [← HFE.out] at hrd
    obtain ⟨k1, k2, k3, k4, k5⟩ := two_cells (B := w'.heap.size) hb3 hb4 (by have := hA.size; have := hba.size; have := hzi.lt; omega) hown hy3 hz3 (.slice (some ⟨g, 0, none⟩) 256 cap) (.int .i64 0) rfl
    exact ⟨k1, rfl, g, cap, by rw [hrd]; exact k2, k3, k4, k5⟩
  · have hieq : ((f.at' : Int) = (s : Int)) = False := eq_false (by omega)
    gi_wp2
    refine ⟨KeepsFrom.refl _ _, fun f' hf' => ?_, hD3, hb3, hx3, hy3, hz3⟩
    have e : bufs.drop k = f :: bufs.drop (k + 1) := by rw [HFE.out, List.getD_eq_getElem?_getD, List.getElem?_eq_getElem hkl, Option.getD_some, ← List.drop_eq_getElem_cons hkl]
    rw [e] at hf'
    rcases List.mem_cons.1 hf' with rfl | hf'
    · exact hat
    · exact hno f' hf'
 case done =>
  rintro W ⟨hno, hDW, hbW, hxW, hyW, hzW⟩ hK
  rw [Nat.sub_self, List.drop_zero] at hno
  have hsec := sector_run s W hDW hs
  have hcl := clone_run ⟨bl, 256 * s, none⟩ _ _ W (sector_bs hDW hs) (by rw [secOf_length hs]; omega) (by rw [secOf_length hs]; omega)
  rw [secOf_length hs] at hcl
  have hcxW : W.cell? ⟨w.heap.size, 0, none⟩ = some (.int .i64 (s : Int)) := hxW.cell 0
  gi_wp2_with (first
   | (gi_at_call 93; refine (callsIn_wide.2 hsec).mono ?_; rintro e w2 ⟨rfl, rfl⟩)
   | (gi_at_call 67; refine (callsIn_wide.2 hcl).mono ?_; rintro e w4 ⟨g, cap, rfl, hown, hb4⟩; have hy4 := hyW.stays hb4; have hz4 := hzW.stays hb4; have hcy4 := hy4.cell 0; have hfy4 := hy4.free 0; have hcz4 := hz4.cell 0; have hfz4 := hz4.free 0))
  obtain ⟨k1, k2, k3, k4, k5⟩ := two_cells (B := w'.heap.size) hbW hb4 (by have := hzW.lt; omega) hown hyW hzW (.slice (some ⟨g, 0, none⟩) 256 cap) (.int .i64 0) rfl
  have hK2 := k1.same _ _ (Nat.le_refl _) hK rfl
  have hA := Aside.put (B := w'.heap.size) (.deferred none) hK2 (Nat.le_refl _) rfl
  have c1 := (k4.aside hA).cell 0
  have c2 := (k5.aside hA).cell 0
  refine ⟨by simp, .inl ⟨_, _, rfl, run_takeDeferred hK2, ?_⟩⟩
  exact ⟨_, results_cells2 rfl _ _ _ rfl rfl (load_slice c1) (load_errno c2), g, cap, rfl, by rw [read_none hno]; exact owns_aside k2 hA, below_aside k3 hA (by omega)⟩
 case stop =>
  rintro c W ⟨rfl, g, cap, hown, hbW, hyW, hzW⟩ hK
  gi_wp2
  have hA := Aside.put (B := w'.heap.size) (.deferred none) hK (Nat.le_refl _) rfl
  have c1 := (hyW.aside hA).cell 0
  have c2 := (hzW.aside hA).cell 0
  refine ⟨by simp, .inl ⟨_, _, rfl, run_takeDeferred hK, ?_⟩⟩
  exact ⟨_, results_cells2 rfl _ _ _ rfl rfl (load_slice c1) (load_errno c2), g, cap, rfl, owns_aside hown hA, below_aside hbW hA (by omega)⟩
end
end Go.Proofs.YthbldjnpnligpaaDoor

/-
 Package disk: Write.
-/

namespace Go.Proofs.YthbldjnpnligpaaDoor
set_option linter.unusedSimpArgs false
set_option linter.unusedVariables false
set_option maxRecDepth 100000
open Go.RowKit
theorem two_new (w : World) (x y : Value) (t : TypeId) : ∀ j u, [x, y][j]? = some u → (w.alloc (.cells #[x, y] t)).cell? ((⟨w.heap.size, 0, none⟩ : Addr).add j) = some u := by
 intro j u hj
 match j, hj with
 | 0, hj => simp at hj; subst hj; simp [Addr.add]
 | 1, hj => simp at hj; subst hj; simp [Addr.add]
theorem step_call {P : Program} {ops : Array Oper} {o : Oper} {a : Act} {w : World} {K : Act → World → Prop} {Q : Exit → Act → World → Prop} {E : Prop} (hgd : o.guard = none) (f : FuncId) (args : Array Value)
 (hv : (execOp a.eval o).run P w = .ok (.enter f args) w) {R : Ending → World → Prop} (hc : Calls P f args w R) (h : ∀ e w', R e w' → ∃ v, e = .returned v ∧ K (a.put o.dst v) w') :
 if Region.wanted o (yielded ops a.tmps) = true then Oper.wp P o a w K Q else E := by
 have hw : Region.wanted o (yielded ops a.tmps) = true := by simp [Region.wanted, hgd]
 rw [if_pos hw]
 unfold Oper.wp
 rw [hv, Oper.upon_enter]
 refine hc.mono fun e w' hR => ?_
 obtain ⟨v, rfl, hw⟩ := h e w' hR
 exact hw
section
variable {p bl : Nat} {v : Value} {bufs : List Buf} {laid : List Int} {off fused : Bool} {left : Nat}
theorem write_off (i : Int) (b : Value) (w : World) (hD : DkAt w p bl v bufs laid true fused left) :
 Calls Tryd.prog 144 #[.pointer (some ⟨p, 0, none⟩), .int .i64 i, b] w fun e w' => e = .returned (.int .i64 8) ∧ w' = w := by
 go_enter Tryd.func144, Tryd.ntmps144
 go_wp2_with (go_at_call 88; refine (down_run _ hD).mono ?_; rintro e w' ⟨rfl, rfl⟩)
 go_ret
 exact ⟨rfl, rfl⟩
theorem write_arg (i : Int) (a : Option Addr) (n c : Nat) (w : World) (hD : DkAt w p bl v bufs laid false fused left) (hi : ¬ ((0 ≤ i ∧ i < ((laid.length / 256 : Nat) : Int)) ∧ n = 256)) :
 Calls Tryd.prog 144 #[.pointer (some ⟨p, 0, none⟩), .int .i64 i, .slice a n c] w fun e w' => e = .returned (.int .i64 1) ∧ w' = w := by
 have hcall := has_run i w hD
 by_cases hh : 0 ≤ i ∧ i < ((laid.length / 256 : Nat) : Int)
 · rw [decide_eq_true hh] at hcall
   have hn : ((n : Int) == 256) = false := by simp; omega
   have hn' : ((n : Int) = 256) = False := eq_false (by omega)
   clear hi hh
   go_enter Tryd.func144, Tryd.ntmps144
   go_wp2_with (first
    | (go_at_call 88; refine (down_run _ hD).mono ?_; rintro e w' ⟨rfl, rfl⟩)
    | (go_at_call 92; refine hcall.mono ?_; rintro e w' ⟨rfl, rfl⟩))
   go_ret
   exact ⟨rfl, rfl⟩
 · rw [decide_eq_false hh] at hcall
   clear hi hh
   go_enter Tryd.func144, Tryd.ntmps144
   go_wp2_with (first
    | (go_at_call 88; refine (down_run _ hD).mono ?_; rintro e w' ⟨rfl, rfl⟩)
    | (go_at_call 92; refine hcall.mono ?_; rintro e w' ⟨rfl, rfl⟩))
   go_ret
   exact ⟨rfl, rfl⟩
theorem write_blown (i : Int) (a : Option Addr) (c : Nat) (w : World) (hD : DkAt w p bl v bufs laid false true 0) (hi : 0 ≤ i ∧ i < ((laid.length / 256 : Nat) : Int)) :
 Calls Tryd.prog 144 #[.pointer (some ⟨p, 0, none⟩), .int .i64 i, .slice a 256 c] w fun e w' => e = .returned (.int .i64 8) ∧ DkAt w' p bl v bufs laid true true 0 ∧ But p w w' := by
 have hcall := has_run i w hD
 rw [decide_eq_true hi] at hcall
 clear hi
 go_enter Tryd.func144, Tryd.ntmps144
 go_wp2_with (first
  | (go_at_call 88; refine (down_run _ hD).mono ?_; rintro e w' ⟨rfl, rfl⟩)
  | (go_at_call 92; refine hcall.mono ?_; rintro e w' ⟨rfl, rfl⟩)
  | (go_at_call 89; refine (spend_run _ hD).mono ?_; rintro e w2 ⟨rfl, hD2, hb2⟩; rw [show may true 0 = false from rfl] at hD2 ⊢))
 go_ret
 exact ⟨rfl, hD2, hb2⟩
theorem bs_owns {w : World} {base g n cap : Nat} {e : TypeId} {xs : List Int} (h : w.ownsRow base e 1 (.slice (some ⟨g, 0, none⟩) n cap) n (xs.map (Value.int .u8))) (hr : ∀ x ∈ xs, 0 ≤ x ∧ x ≤ 255) : Bs w (some ⟨g, 0, none⟩) cap xs := by
 obtain ⟨a, c, he, hb⟩ := Bs.of_owns h hr
 simp only [Value.slice.injEq] at he
 obtain ⟨rfl, _, rfl⟩ := he
 exact hb
theorem write_end {w w2 w3 w5 : World} {left' s g cap g5 cap5 : Nat} {xs : List Int} (hD2 : DkAt w2 p bl v bufs laid false fused left') (hb2 : But p w w2) (hb3 : Below w2.heap.size w2.drew w3) (hD3 : DkAt w3 p bl v bufs laid false fused left')
 (hown3 : w3.ownsRow w2.heap.size 5 1 (.slice (some ⟨g, 0, none⟩) 256 cap) 256 (xs.map (Value.int .u8))) (hr : ∀ x ∈ xs, 0 ≤ x ∧ x ≤ 255) (hx : xs.length = 256) (hs : 256 * s + 256 ≤ laid.length)
 (hown5 : w5.ownsRow 0 159 2 (.slice (some ⟨g5, 0, none⟩) (bufs.length + 1) cap5) (bufs.length + 1) (bufs.flatMap Buf.cells ++ [.int .i64 (s : Int), .slice (some ⟨g, 0, none⟩) 256 cap]))
 (hgrow5 : (w3.alloc (.cells #[.int .i64 (s : Int), .slice (some ⟨g, 0, none⟩) 256 cap] 159)).grownBy w5 v.ownBlock) (hat5 : v.ownBlock = some g5 ∨ g5 = w3.heap.size + 1)
 (hp5 : Blk 131 w5 p [.slice (some ⟨bl, 0, none⟩) laid.length laid.length, v, .bool false, .bool fused, .int .i64 (left' : Int)]) :
 ∃ v' f, DkAt (w5.setCell ⟨p, 1, none⟩ (.slice (some ⟨g5, 0, none⟩) (bufs.length + 1) cap5)) p bl v' (bufs ++ [f]) laid false fused left' ∧ f.at' = s ∧ f.xs = xs ∧ w.heap.size ≤ f.blk ∧ (∀ k, v'.ownBlock = some k → v.ownBlock = some k ∨ w.heap.size ≤ k) ∧
   Frm (fun k => k = p ∨ v.ownBlock = some k) w (w5.setCell ⟨p, 1, none⟩ (.slice (some ⟨g5, 0, none⟩) (bufs.length + 1) cap5)) := by
 have hg := hown3.lt g rfl
 have hs2 := hb2.size
 have hs3 : w2.heap.size ≤ w3.heap.size := hb3.size
 have hs5 : w3.heap.size + 1 ≤ w5.heap.size := by have := hgrow5.size; simpa using this
 have hbl := hD2.row.lt
 have hpl := hD2.blk.lt
 have hk : ∀ k, k < w3.heap.size → v.ownBlock ≠ some k → w5.heap[k]? = w3.heap[k]? := fun k hlt hne =>
  (hgrow5.block k (by simp; omega) (fun e => hne e.symm)).trans (Below.heap_alloc _ _ _ hlt)
 have hset : ∀ k, k ≠ p → (w5.setCell ⟨p, 1, none⟩ (.slice (some ⟨g5, 0, none⟩) (bufs.length + 1) cap5)).heap[k]? = w5.heap[k]? := fun k hne => Below.heap_setCell _ _ _ _ (by simpa using hne)
 have hg5p : g5 ≠ p := by
  rcases hat5 with h | h
  · exact hD2.p_ne_v h
  · omega
 have hvlt : ∀ k, v.ownBlock = some k → k < w2.heap.size := fun k e => (hD2.own.lt k e).2
 refine ⟨.slice (some ⟨g5, 0, none⟩) (bufs.length + 1) cap5, ⟨s, xs, g, cap⟩, ⟨?_, ?_, ?_, ?_, hD2.rng, hD2.siz, hD2.lft⟩, rfl, rfl, by simp; omega, ?_, ?_⟩
 · exact hp5.set 1 _
 · have h1 := hD3.row
   unfold Row at *
   rw [hset bl (Ne.symm hD2.p_ne_bl), hk bl (by omega) (fun e => hD2.bl_ne_v e rfl)]
   exact h1
 · have h6 : (bufs ++ [(⟨s, xs, g, cap⟩ : Buf)]).flatMap Buf.cells = bufs.flatMap Buf.cells ++ [.int .i64 (s : Int), .slice (some ⟨g, 0, none⟩) 256 cap] := by simp [Buf.cells, Buf.slice, hx]
   rw [h6]
   have h7 : (bufs ++ [(⟨s, xs, g, cap⟩ : Buf)]).length = bufs.length + 1 := by simp
   rw [h7]
   refine owns_keep hown5 (fun k e => hset k ?_)
   simp [Value.ownBlock] at e
   subst e
   exact hg5p
 · intro f hf
   rcases List.mem_append.1 hf with hf | hf
   · obtain ⟨h1, h2, h3⟩ := hD3.buf f hf
     obtain ⟨cs, hc⟩ := h1.blk
     refine ⟨h1.keep ?_, h2, h3⟩
     rw [hset _ (hD3.p_ne_buf hf), hk _ (Array.getElem?_eq_some_iff.1 hc).1 (fun e => hD3.v_ne_buf hf e rfl)]
   · simp at hf
     subst hf
     have hkeep : (w5.setCell ⟨p, 1, none⟩ (.slice (some ⟨g5, 0, none⟩) (bufs.length + 1) cap5)).heap[g]? = w3.heap[g]? := by
        rw [hset _ (by omega), hk _ hg.2 (fun e => by have := hvlt g e; omega)]
     refine ⟨⟨?_, ?_, hx⟩, by simp; omega, by simpa using hs⟩
     · obtain ⟨cs, hc⟩ := own_type hown3 (k := g) rfl
       exact ⟨cs, by simp only; rw [hkeep]; exact hc⟩
     · exact bs_owns (owns_keep hown3 (fun k e => by simp [Value.ownBlock] at e; subst e; exact hkeep)) hr
 · intro k e
   simp [Value.ownBlock] at e
   subst e
   rcases hat5 with h | h
   · exact .inl h
   · right; omega
 · refine ⟨hgrow5.os.trans (hb3.os.trans hb2.os), hgrow5.tape.trans (hb3.tape.trans hb2.tape), hgrow5.output.trans (hb3.output.trans hb2.output), by simp; omega, fun k hnk hlt => ?_⟩
   have hkp : k ≠ p := fun e => hnk (.inl e)
   rw [hset k hkp, hk k (by omega) (fun e => hnk (.inr e)), hb3.block k (by omega)]
   exact hb2.block k hkp hlt
set_option maxRecDepth 100000 in
set_option maxHeartbeats 4000000 in
theorem write_done (s : Nat) (ad : Addr) (c : Nat) (xs : List Int) (w : World) (hD : DkAt w p bl v bufs laid false fused left) (hm : may fused left = true) (hs : 256 * s + 256 ≤ laid.length) (hB : Bs w (some ad) c xs) (hx : xs.length = 256) (hne : ad.block ≠ p) (hlen : bufs.length ≤ 1000000) :
 Calls Tryd.prog 144 #[.pointer (some ⟨p, 0, none⟩), .int .i64 (s : Int), .slice (some ad) 256 c] w fun e w' => e = .returned (.int .i64 0) ∧
  ∃ v' f, DkAt w' p bl v' (bufs ++ [f]) laid false fused (if fused then left - 1 else left) ∧ f.at' = s ∧ f.xs = xs ∧ w.heap.size ≤ f.blk ∧ (∀ k, v'.ownBlock = some k → v.ownBlock = some k ∨ w.heap.size ≤ k) ∧ Frm (fun k => k = p ∨ v.ownBlock = some k) w w' := by
 have hcall := has_run (s : Int) w hD
 rw [decide_eq_true (by omega)] at hcall
 have hi : (Tryd.prog.info? 159).map (fun i => (i.zero, i.size, i.bytes)) = some (some (.agg #[.int .i64 0, .slice none 0 0]), 2, 32) := by kernel_rfl
 obtain ⟨i0, hi0, hz0, hz1, hz2⟩ := info_parts hi
 obtain ⟨left', hleft⟩ : ∃ l, l = (if fused then left - 1 else left) := ⟨_, rfl⟩
 rw [← hleft]
 have HL : Hid (left' = (if fused then left - 1 else left)) := hleft
 clear hleft
 go_enter Tryd.func144, Tryd.ntmps144
 go_wp2_with (first
  | (go_at_call 88; refine (down_run _ hD).mono ?_; rintro e w' ⟨rfl, rfl⟩)
  | (go_at_call 92; refine hcall.mono ?_; rintro e w' ⟨rfl, rfl⟩)
  | (go_at_call 89; refine (spend_run _ hD).mono ?_; rintro e w2 ⟨rfl, hD2, hb2⟩; rw [hm] at hD2 ⊢; rw [← HL.out] at hD2))
 have hB2 : Bs w2.drew (some ad) c xs := hB.but hb2.drew (fun _ b hb => by cases hb; exact hne)
 obtain ⟨h0, h1, h2, h3, h4⟩ := hD2.fields
 have hcl := clone_run ad c xs w2.drew hB2 (by omega) (by omega)
 rw [hx] at hcl
 have hpv : some p ≠ v.ownBlock := fun e => hD2.p_ne_v e.symm rfl
 have hs2 : w'.heap.size ≤ w2.heap.size := hb2.size
 go_region_law
  (first
   | (refine step_call rfl 67 #[.slice (some ad) 256 c] (by go_simp) hcl ?_; rintro e w3 ⟨g, cap, rfl, hown3, hb3⟩; refine ⟨_, rfl, ?_⟩; have hD3 := hD2.drew.stays hb3; have h13 := hD3.fields.2.1; have h14 : ∀ o, (w3.alloc o).cell? ⟨p, 1, none⟩ = some v := fun o => (hD3.stays ((Below.refl _ _).alloc (Nat.le_refl _) o)).fields.2.1)
   | (refine step_append_lies _ rfl (.tmp 25) (.tmp 30) 129 rfl 0 159 i0 (.agg #[.int .i64 0, .slice none 0 0]) 2 32 Tryd.underlying129 hi0 hz0 hz1 hz2 rfl (by decide) v bufs.length (bufs.flatMap Buf.cells) rfl (hD3.own.alloc _) ⟨w3.heap.size, 0, none⟩ 1 1 [.int .i64 (s : Int), .slice (some ⟨g, 0, none⟩) 256 cap] rfl rfl (two_new _ _ _ _) (by simp [Value.oneCell']) (by decide) (by unfold maxLen; omega) (by omega) (Nat.zero_le _) (w3.heap.size + 1) (by simp) ?_; intro g5 cap5 w5 hown5 hgrow5 hat5 hlt5
      have hD5 := (hD3.stays ((Below.refl _ _).alloc (Nat.le_refl _) (.cells #[.int .i64 (s : Int), .slice (some ⟨g, 0, none⟩) 256 cap] 159)))
      have hp5 : Blk 131 w5 p [.slice (some ⟨bl, 0, none⟩) laid.length laid.length, v, .bool false, .bool fused, .int .i64 (left' : Int)] := (hgrow5.block p hD5.blk.lt hpv).trans hD5.blk
      have hc5 := hp5.cell 1
      have hf5 := hp5.free 1))
 all_goals (go_wp2; go_ret)
 all_goals exact ⟨rfl, write_end hD2 hb2 hb3 hD3 hown3 hB.rng hx hs hown5 hgrow5 hat5 hp5⟩
end
end Go.Proofs.YthbldjnpnligpaaDoor
