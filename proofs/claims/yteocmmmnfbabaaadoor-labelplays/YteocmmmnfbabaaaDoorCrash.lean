/-
  Package disk: Crash.
-/
import Derived.Test.YteocmmmnfbabaaaDoorFlush
import Derived.Stop.RegionWithIn
import Derived.BigRegionIn
import Derived.Sort.QuietIn
import Derived.BigRegion
namespace Go.Proofs.YteocmmmnfbabaaaDoor
set_option linter.unusedSimpArgs false
set_option linter.unusedVariables false
open Go.RowKit
attribute [local go_sem] Oper.semAt_some wide_fn wide_depth round_fn round_depth

/-- Integers behind a slice. -/
def Is (w : World) (a : Option Addr) (ks : List Int) : Prop := ks = [] ∨ ∃ b off, a = some ⟨b, off, none⟩ ∧ ∀ i, i < ks.length → w.cell? ⟨b, off + i, none⟩ = some (.int .i64 (ks.getD i 0))

theorem Is.at {w : World} {a : Option Addr} {ks : List Int} (h : Is w a ks) {k : Nat} (hk : k < ks.length) : ∃ b off, a = some ⟨b, off, none⟩ ∧ w.cell? ⟨b, off + k, none⟩ = some (.int .i64 (ks.getD k 0)) := by
  rcases h with rfl | ⟨b, off, rfl, hc⟩
  · simp at hk
  · exact ⟨b, off, rfl, hc k hk⟩

theorem Is.stays {w w' : World} {a : Option Addr} {ks : List Int} (h : Is w a ks) (hb : Below w.heap.size w w') : Is w' a ks := by
  rcases h with h | ⟨b, off, rfl, hc⟩
  · exact .inl h
  · refine .inr ⟨b, off, rfl, fun i hi => ?_⟩
    rw [hb.cell (World.block_lt_of_cell? w _ (hc i hi))]
    exact hc i hi

theorem Is.frm {w w' : World} {a : Option Addr} {ks : List Int} {F : Nat → Prop} (h : Is w a ks) (hb : Frm F w w') (hne : ks ≠ [] → ∀ x, a = some x → ¬ F x.block) : Is w' a ks := by
  rcases h with h | ⟨b, off, rfl, hc⟩
  · exact .inl h
  · refine .inr ⟨b, off, rfl, fun i hi => ?_⟩
    have h1 := hc i hi
    rw [World.cell?_of_block (w := w) (hb.block b (hne (fun h => by rw [h] at hi; simp at hi) _ rfl) (World.block_lt_of_cell? w _ h1))]
    exact h1

section
variable {p bl : Nat} {v : Value} {bufs : List Buf} {laid : List Int} {off fused : Bool} {left : Nat}

set_option maxRecDepth 100000 in
set_option maxHeartbeats 1000000 in
theorem crash_run (w : World) (ka : Option Addr) (kc : Nat) (ks : List Int) (hD : DkAt w p bl v bufs laid off fused left) (hlen : bufs.length ≤ 1000000) (hK : Is w ka ks) (hkl : ks.length ≤ 140737488351232) (hne : ks ≠ [] → ∀ x, ka = some x → ¬ Two p bl x.block) :
    Calls Tryd.prog 26 #[.pointer (some ⟨p, 0, none⟩), .slice ka ks.length kc] w fun e w' => (∃ v, e = .returned v) ∧ DkAt w' p bl (.slice none 0 0) [] (laidTo laid bufs (fun k => ks.getD k 0) (min bufs.length ks.length)) false false 0 ∧ Frm (Two p bl) w w' := by
  refine (callsIn_wide (n := 0)).1 (callsIn_of_wp_marks Tryd.func26 rfl trivial ?_ rfl)
  simp only [Tryd.ntmps26, List.size_toArray, List.length_cons, List.length_nil, Nat.reduceAdd, Nat.reduceSub, Array.replicate_succ, Array.replicate_zero, List.push_toArray, List.append_toArray, List.nil_append, List.cons_append]
  have hpw : p < w.heap.size := hD.blk.lt
  have hpl : bl < w.heap.size := hD.row.lt
  have hpl2 : w.heap.size ≠ bl := by omega
  have hpw2 : w.heap.size ≠ p := by omega
  have hpl3 : w.heap.size + 1 ≠ bl := by omega
  gi_wp2
  obtain ⟨w1, hw1⟩ : ∃ w1, w1 = (w.alloc (.cells #[.pointer (some ⟨p, 0, none⟩)] 42)).alloc (.cells #[.slice ka ks.length kc] 53) := ⟨_, rfl⟩
  have hb1 : Below w.heap.size w w1 := by rw [hw1]; exact ((Below.refl _ _).alloc (Nat.le_refl _) _).alloc (by simp) _
  have hc1 : w1.cell? ⟨w.heap.size, 0, none⟩ = some (.pointer (some ⟨p, 0, none⟩)) := by rw [hw1]; simp
  have hc2 : w1.cell? ⟨w.heap.size + 1, 0, none⟩ = some (.slice ka ks.length kc) := by rw [hw1]; simp
  rw [← hw1]
  have hs1 : w.heap.size ≤ w1.heap.size := hb1.size
  clear hw1
  refine wpIn_range_bound 53 (.pointer (some ⟨p, 0, none⟩)) rfl (enters_of Tryd.func53 (by kernel_rfl) rfl) bufs.length (fun i => #[.int .i64 (i : Int), (bufs.getD i noBuf).agg]) (Nd p v bufs) (fun W h => oldest_iter p v bufs hlen W h) (fun _ => rfl)
    (fun i W => i ≤ ks.length ∧ DkAt W p bl v bufs (laidTo laid bufs (fun k => ks.getD k 0) i) off fused left ∧ Frm (Two p bl) w W ∧ W.cell? ⟨w.heap.size, 0, none⟩ = some (.pointer (some ⟨p, 0, none⟩)) ∧ W.cell? ⟨w.heap.size + 1, 0, none⟩ = some (.slice ka ks.length kc))
    (fun c W => c = .exit 0 ∧ ks.length < bufs.length ∧ DkAt W p bl v bufs (laidTo laid bufs (fun k => ks.getD k 0) ks.length) off fused left ∧ Frm (Two p bl) w W ∧ W.cell? ⟨w.heap.size, 0, none⟩ = some (.pointer (some ⟨p, 0, none⟩)))
    (fun i W h => h.2.1.nd) (fun i W W' h hA => ⟨h.1, h.2.1.aside hA, h.2.2.1.aside hA hs1, hA.cell h.2.2.2.1, hA.cell h.2.2.2.2⟩) (fun c W W' h hA => ⟨h.1, h.2.1, h.2.2.1.aside hA, h.2.2.2.1.aside hA hs1, hA.cell h.2.2.2.2⟩) ⟨Nat.zero_le _, hD.stays hb1, Frm.of_below hb1, hc1, hc2⟩ ?round ?done ?stop
  case round =>
    rintro l i W K hi ⟨hik, hDi, hFi, hbxi, hbyi⟩ hR
    obtain ⟨f, hfe⟩ : ∃ f, f = bufs.getD i noBuf := ⟨_, rfl⟩
    have hfm : f ∈ bufs := hfe ▸ getD_mem hi
    have hf := hDi.buf f hfm
    rw [laidTo_succ, ← hfe] at hR
    dsimp only
    rw [← hfe]
    unfold Buf.agg Buf.slice
    clear hfe
    gi_wp2
    refine hR _ _ ((KeepsOthers.alloc _ _).from _) (fun w₃ hA => ?_)
    have hba : Below W.heap.size W (W.alloc (.cells #[.int .i64 (f.at' : Int), .slice (some ⟨f.blk, 0, none⟩) f.xs.length f.cap] 91)) := (Below.refl _ _).alloc (Nat.le_refl _) _
    have hD3 := (hDi.stays hba).aside hA
    have hd0 : w₃.cell? ⟨W.heap.size, 0, none⟩ = some (.int .i64 (f.at' : Int)) := hA.cell (by simp)
    have hd1 : w₃.cell? ⟨W.heap.size, 1, none⟩ = some (.slice (some ⟨f.blk, 0, none⟩) f.xs.length f.cap) := hA.cell (by simp)
    have hbx3 := hA.cell (hba.cell (World.block_lt_of_cell? _ _ hbxi) ▸ hbxi)
    have hby3 := hA.cell (hba.cell (World.block_lt_of_cell? _ _ hbyi) ▸ hbyi)
    have hF3 := (hFi.trans (Frm.of_below hba)).aside hA hs1
    by_cases hik2 : i = ks.length
    · have hieq : ((i : Int) = (ks.length : Int)) = True := eq_true (by omega)
      gi_wp2
      exact ⟨KeepsFrom.refl _ _, rfl, by omega, hik2 ▸ hD3, hF3, hbx3⟩
    · have hlt : i < ks.length := by omega
      obtain ⟨b, o, rfl, hkc⟩ := (hK.frm hF3 hne).at hlt
      have hieq : ((i : Int) = (ks.length : Int)) = False := eq_false (by omega)
      have hlt' : (i : Int) < (ks.length : Int) := by omega
      obtain ⟨kn, hkn⟩ : ∃ kn, kn = ks.getD i 0 := ⟨_, rfl⟩
      rw [← hkn] at hkc hR
      have HKN : Hid (kn = ks.getD i 0) := hkn
      clear hkn
      have hcall := lay_run f kn w₃.drew hD3.drew (hD3.drew.buf f hfm).1 hf.2.1 hf.2.2
      unfold Buf.slice at hcall
      gi_wp2
      gi_region_with (gi_at_call 54; refine (CallsIn.inRound l (callsIn_wide.2 hcall)).mono ?_; rintro e w4 ⟨⟨_, rfl⟩, hD4, hb4⟩)
      all_goals exact ⟨keeps_but ((But.refl _ _).drew.trans hb4) (by omega), by omega, HKN.out ▸ hD4, (hF3.drew).trans (Frm.of_but hb4 (.inr rfl)), (World.cell?_of_block (hb4.block _ hpl2 (World.block_lt_of_cell? _ _ hbx3))).trans hbx3, (World.cell?_of_block (hb4.block _ hpl3 (World.block_lt_of_cell? _ _ hby3))).trans hby3⟩
  case done =>
    rintro W ⟨hik, hDW, hFW, hbxW, hbyW⟩ hK
    have hmin : min bufs.length ks.length = bufs.length := by omega
    rw [← hmin] at hDW
    obtain ⟨h0, h1, h2, h3, h4⟩ := hDW.fields
    have f1 := hDW.free 1
    gi_wp2
    obtain ⟨W1, hW1⟩ : ∃ W1, W1 = W.setCell ⟨p, 1, none⟩ (.slice none 0 0) := ⟨_, rfl⟩
    have hbs : But p W W1 := by rw [hW1]; exact (But.refl _ _).setCell _ _
    have hD1 : DkAt W1 p bl (.slice none 0 0) [] (laidTo laid bufs (fun k => ks.getD k 0) (min bufs.length ks.length)) off fused left := by rw [hW1]; exact hDW.clear hDW.lft ((But.refl _ _).setCell _ _) (hDW.blk.set 1 _)
    have hbx1 : W1.cell? ⟨w.heap.size, 0, none⟩ = some (.pointer (some ⟨p, 0, none⟩)) := (World.cell?_of_block (hbs.block _ hpw2 (World.block_lt_of_cell? _ _ hbxW))).trans hbxW
    have hK1 : W1.heap[w1.heap.size]? = some (.deferred (some [])) := (hbs.block _ (by omega) (Array.getElem?_eq_some_iff.1 hK).1).trans hK
    rw [← hW1]
    clear hW1 h0 h1 h2 h3 h4 f1 hDW
    obtain ⟨h0, h1, h2, h3, h4⟩ := hD1.fields
    have f2 := hD1.free 2
    have f3 := hD1.free 3
    have f4 := hD1.free 4
    refine wpIn_wide.2 ?_
    go_region
    obtain ⟨W2, hW2⟩ : ∃ W2, W2 = ((W1.setCell ⟨p, 2, none⟩ (.bool false)).setCell ⟨p, 3, none⟩ (.bool false)).setCell ⟨p, 4, none⟩ (.int .i64 0) := ⟨_, rfl⟩
    have hb2 : But p W1 W2 := by rw [hW2]; exact (((But.refl _ _).setCell _ _).setCell _ _).setCell _ _
    have hD2 : DkAt W2 p bl (.slice none 0 0) [] (laidTo laid bufs (fun k => ks.getD k 0) (min bufs.length ks.length)) false false 0 := hD1.flags (by omega) hb2 (by rw [hW2]; exact ((hD1.blk.set 2 _).set 3 _).set 4 _)
    have hK2 : W2.drew.heap[w1.heap.size]? = some (.deferred (some [])) := (hb2.block _ (by omega) (Array.getElem?_eq_some_iff.1 hK1).1).trans hK1
    have hA := Aside.put (B := w1.heap.size) (.deferred none) hK2 (Nat.le_refl _) rfl
    rw [← hW2]
    refine ⟨by simp, .inl ⟨_, _, rfl, run_takeDeferred hK2, ?_⟩⟩
    exact ⟨_, results_none rfl _ _ _, ⟨_, rfl⟩, hD2.drew.aside hA, (((hFW.trans (Frm.of_but hbs (.inl rfl))).trans (Frm.of_but hb2 (.inl rfl))).drew).aside hA hs1⟩
  case stop =>
    rintro c W ⟨rfl, hik, hDW, hFW, hbxW⟩ hK
    have hmin : min bufs.length ks.length = ks.length := by omega
    rw [← hmin] at hDW
    obtain ⟨h0, h1, h2, h3, h4⟩ := hDW.fields
    have f1 := hDW.free 1
    gi_wp2
    obtain ⟨W1, hW1⟩ : ∃ W1, W1 = W.setCell ⟨p, 1, none⟩ (.slice none 0 0) := ⟨_, rfl⟩
    have hbs : But p W W1 := by rw [hW1]; exact (But.refl _ _).setCell _ _
    have hD1 : DkAt W1 p bl (.slice none 0 0) [] (laidTo laid bufs (fun k => ks.getD k 0) (min bufs.length ks.length)) off fused left := by rw [hW1]; exact hDW.clear hDW.lft ((But.refl _ _).setCell _ _) (hDW.blk.set 1 _)
    have hbx1 : W1.cell? ⟨w.heap.size, 0, none⟩ = some (.pointer (some ⟨p, 0, none⟩)) := (World.cell?_of_block (hbs.block _ hpw2 (World.block_lt_of_cell? _ _ hbxW))).trans hbxW
    have hK1 : W1.heap[w1.heap.size]? = some (.deferred (some [])) := (hbs.block _ (by omega) (Array.getElem?_eq_some_iff.1 hK).1).trans hK
    rw [← hW1]
    clear hW1 h0 h1 h2 h3 h4 f1 hDW
    obtain ⟨h0, h1, h2, h3, h4⟩ := hD1.fields
    have f2 := hD1.free 2
    have f3 := hD1.free 3
    have f4 := hD1.free 4
    refine wpIn_wide.2 ?_
    go_region
    obtain ⟨W2, hW2⟩ : ∃ W2, W2 = ((W1.setCell ⟨p, 2, none⟩ (.bool false)).setCell ⟨p, 3, none⟩ (.bool false)).setCell ⟨p, 4, none⟩ (.int .i64 0) := ⟨_, rfl⟩
    have hb2 : But p W1 W2 := by rw [hW2]; exact (((But.refl _ _).setCell _ _).setCell _ _).setCell _ _
    have hD2 : DkAt W2 p bl (.slice none 0 0) [] (laidTo laid bufs (fun k => ks.getD k 0) (min bufs.length ks.length)) false false 0 := hD1.flags (by omega) hb2 (by rw [hW2]; exact ((hD1.blk.set 2 _).set 3 _).set 4 _)
    have hK2 : W2.drew.heap[w1.heap.size]? = some (.deferred (some [])) := (hb2.block _ (by omega) (Array.getElem?_eq_some_iff.1 hK1).1).trans hK1
    have hA := Aside.put (B := w1.heap.size) (.deferred none) hK2 (Nat.le_refl _) rfl
    rw [← hW2]
    refine ⟨by simp, .inl ⟨_, _, rfl, run_takeDeferred hK2, ?_⟩⟩
    exact ⟨_, results_none rfl _ _ _, ⟨_, rfl⟩, hD2.drew.aside hA, (((hFW.trans (Frm.of_but hbs (.inl rfl))).trans (Frm.of_but hb2 (.inl rfl))).drew).aside hA hs1⟩

end
end Go.Proofs.YteocmmmnfbabaaaDoor
