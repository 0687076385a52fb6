/-
  The function do of package disk's laws: an act on both disks.
-/
import Derived.Test.YtjdidfocelagbaaBoth
import Derived.Deep.QuietTactic
import Derived.BigQuiet
namespace Go.Proofs.Ytjdidfocelagbaa
set_option linter.unusedSimpArgs false
set_option linter.unusedVariables false
open Go.RowKit

/-- What an act leaves: both disks hold the same again, and all but the disk's blocks stays. -/
def Fr (F : Nat → Prop) (w w' : World) : Prop := Frm (fun k => F k ∨ w.heap.size ≤ k) w w'
def Did (B p : Nat) (F G : Nat → Prop) (w : World) (S' : DS) (e : Ending) (w' : World) : Prop :=
  ∃ cs', e = .returned (.tuple #[.agg cs'.toArray, .bool true]) ∧ (∃ F' G', Pair B w' F' G' p S' cs' S' ∧ (∀ k, F' k → F k ∨ w.heap.size ≤ k) ∧ ∀ k, G' k → G k ∨ w.heap.size ≤ k) ∧ Fr F w w'

theorem Fr.below {F : Nat → Prop} {w w' : World} (h : Fr F w w') {B : Nat} (hB : B ≤ w.heap.size) (hF : ∀ k, F k → B ≤ k) : Below B w w' :=
  Frm.below h hB (fun k hk => by rcases hk with hk | hk; exact hF k hk; omega)
theorem Fr.grow {F : Nat → Prop} {w w1 w2 : World} (h : Fr F w w1) (hb : Below w1.heap.size w1 w2) : Fr F w w2 := Frm.trans h (Frm.of_below hb)
theorem Fr.but {F : Nat → Prop} {w w1 w2 : World} {g : Nat} (h : Fr F w w1) (hb : But g w1 w2) (hg : w.heap.size ≤ g) : Fr F w w2 := Frm.trans h (Frm.of_but hb (.inr hg))
theorem Fr.disk {F : Nat → Prop} {w w1 w2 : World} (h : Fr F w w1) (hf : Frm F w1 w2) : Fr F w w2 := Frm.trans h (hf.mono fun k hk => .inl hk)
theorem Fr.same {F : Nat → Prop} {w w1 w2 : World} (h : Fr F w w1) (hh : w2.heap = w1.heap) (ho : w2.os = w1.os) (ht : w2.tape = w1.tape) (hu : w2.output = w1.output) : Fr F w w2 :=
  ⟨ho.trans h.os, ht.trans h.tape, hu.trans h.output, by rw [hh]; exact h.size, fun k hk hl => by rw [hh]; exact h.block k hk hl⟩

theorem rf_cells {w : World} {G : Nat → Prop} {cs : List Value} {S : DS} (h : Rf w G cs S) : ∃ sa n sc wa wc, cs = [.slice sa n sc, .slice wa S.ws.length wc, .bool S.fused, .int .i64 (S.left : Int), .bool S.off] := by
  obtain ⟨n, sa, sc, wa, wc, hok, rfl, hs, hw⟩ := h
  exact ⟨sa, n, sc, wa, wc, rfl⟩

theorem Blk.heap {t : TypeId} {w w' : World} {g : Nat} {vs : List Value} (h : Blk t w g vs) (hh : w'.heap = w.heap) : Blk t w' g vs := by
  unfold Blk at *
  rw [hh]; exact h

theorem conv_empty (a : Addr) (c : Nat) (w : World) : (convert 35 9 (.slice (some a) 0 c)).run Try.prog w = .ok (.string (strOfNums [])) w := by
  rw [run_convert_bytes_string w 35 9 5 _ _ c Try.underlying35 Try.underlying5 Try.underlying9, run_bytesToString w _ _ c [] (by simpa using run_loadCells_list (P := Try.prog) w a [] (by simp))]
  rfl

set_option maxRecDepth 100000 in
set_option maxHeartbeats 1000000 in
theorem do_flush (B p : Nat) (F G : Nat → Prop) (cs : List Value) (S : DS) (pos : Int) (ba : Option Addr) (bn bc : Nat) (raw : Bool) (ka : Option Addr) (kn kc : Nat) (w : World) (hP : Pair B w F G p S cs S) (hB : B ≤ w.heap.size) (hl : S.ws.length ≤ 800000) :
    Calls Try.prog 8 #[.pointer (some ⟨p, 0, none⟩), .agg cs.toArray, .agg #[.int .i64 2, .int .i64 pos, .slice ba bn bc, .bool raw, .slice ka kn kc]] w fun e w' =>
      Did B p F G w S.flush.1 e w' := by
  obtain ⟨sa, n, sc, wa, wc, rfl⟩ := rf_cells hP.rf
  obtain ⟨W, hWe⟩ : ∃ W, W = ((((w.alloc (.cells #[.slice sa n sc, .slice wa S.ws.length wc, .bool S.fused, .int .i64 (S.left : Int), .bool S.off] 30)).alloc (.cells #[.int .i64 2, .int .i64 pos, .slice ba bn bc, .bool raw, .slice ka kn kc] 38)).alloc (.cells #[.slice none 0 0, .slice none 0 0, .bool false, .int .i64 0, .bool false] 30)).alloc (.cells #[] 5)).alloc (.cells #[] 5) := ⟨_, rfl⟩
  have hbW : Below w.heap.size w W := by rw [hWe]; exact (((((Below.refl _ _).alloc (Nat.le_refl _) _).alloc (by simp) _).alloc (by simp; omega) _).alloc (by simp; omega) _).alloc (by simp; omega) _
  have hM : Blk 30 W w.heap.size [.slice sa n sc, .slice wa S.ws.length wc, .bool S.fused, .int .i64 (S.left : Int), .bool S.off] := by rw [hWe]; exact ((((Blk.newAt rfl rfl).alloc _).alloc _).alloc _).alloc _
  have hR : Blk 30 W (w.heap.size + 2) [.slice none 0 0, .slice none 0 0, .bool false, .int .i64 0, .bool false] := by rw [hWe]; exact ((Blk.newAt (by simp) rfl).alloc _).alloc _
  have hPW := hP.stays hbW
  have hsW : W.heap.size = w.heap.size + 5 := by rw [hWe]; simp
  have hfl := dk_flush hPW.dk (by omega)
  have HWE : Hid (W = _) := hWe
  clear hWe
  have hcvx := fun u => conv_empty ⟨w.heap.size + 3, 0, none⟩ 0 u
  have hcvy := fun u => conv_empty ⟨w.heap.size + 3 + 1, 0, none⟩ 0 u
  go_enter Try.func8, Try.ntmps8
  have hH : ∀ k, w.heap.size ≤ k → ¬ F k ∧ ¬ G k := fun k hk => ⟨fun h => by have := (hP.low k h).2; omega, fun h => by have := hP.lowG k h; omega⟩
  go_wp2_with (first
    | (go_at_call 18; rw [← HWE.out]; refine hfl.mono ?_; clear hfl; rintro e w1 ⟨rfl, hT⟩
       obtain ⟨F1, hP1, hF1, hb1⟩ := hPW.disk (by omega) hT
       have hM1 := box_keep hT.2 hM (hH _ (by omega)).1
       have hR1 := box_keep hT.2 hR (hH _ (by omega)).1
       obtain ⟨m0, m1, m2, m3, m4⟩ := box_cells hM1
       have hrf := rflush_run hP1.rf (by omega))
    | (go_at_call 19; refine hrf.mono ?_; clear hrf; rintro e w2 ⟨cs2, rfl, hT2⟩
       have hP2 := hP1.ref hT2
       obtain ⟨sa2, n2, sc2, wa2, wc2, rfl⟩ := rf_cells hP2.rf
       have hM2 := hM1.stays hT2.2
       have hR2 := hR1.stays hT2.2
       obtain ⟨m0, m1, m2, m3, m4⟩ := box_cells hM2
       have fm := hM2.free))
  have hF1H : ∀ k, w.heap.size ≤ k → k < W.heap.size → ¬ F1 k := fun k h1 h2 h => by
    rcases hF1 k h with h | h
    · exact (hH k h1).1 h
    · omega
  have hGH : ∀ k, w.heap.size ≤ k → k < W.heap.size → ¬ ((G k ∨ w1.heap.size ≤ k) ∧ k < w2.heap.size) := fun k h1 h2 h => by
    rcases h.1 with h | h
    · exact (hH k h1).2 h
    · have := hT.2.size; omega
  obtain ⟨W3, hW3⟩ : ∃ W3, W3 = put5 w2 w.heap.size (.slice sa2 n2 sc2) (.slice wa2 S.flush.1.ws.length wc2) (.bool S.flush.1.fused) (.int .i64 (S.flush.1.left : Int)) (.bool S.flush.1.off) := ⟨_, rfl⟩
  have hbut3 : But w.heap.size w2 W3 := by rw [hW3]; exact put5_but _ _ _ _ _ _ _
  have hP3 := hP2.but hbut3 (hF1H _ (by omega) (by omega)) (hGH _ (by omega) (by omega))
  have hM3 : Blk 30 W3 w.heap.size [.slice sa2 n2 sc2, .slice wa2 S.flush.1.ws.length wc2, .bool S.flush.1.fused, .int .i64 (S.flush.1.left : Int), .bool S.flush.1.off] := by rw [hW3]; exact put5_same hM2 _ _ _ _ _
  have hR3 := hR2.but hbut3 (by omega)
  have hb3 : Below B w W3 := by
    have h1 : Below B w w1 := (hbW.mono hB).trans hb1
    have h2 : Below B w w2 := h1.trans (hT2.2.mono (by have := h1.size; omega))
    exact h2.trans (hbut3.below hB (by have := h2.size; omega))
  have fr3 : Fr F w W3 := ((Fr.disk (Frm.of_below hbW) hT.2).grow hT2.2).but hbut3 (Nat.le_refl _)
  have hFx : ∀ k, F1 k → F k ∨ w.heap.size ≤ k := fun k h => by
    rcases hF1 k h with h | h
    · exact .inl h
    · exact .inr (by omega)
  have hGx : ∀ k, ((G k ∨ w1.heap.size ≤ k) ∧ k < w2.heap.size) → G k ∨ w.heap.size ≤ k := fun k h => by
    rcases h.1 with h | h
    · exact .inl h
    · exact .inr (by have := hT.2.size; omega)
  unfold put5 at hW3
  rw [← hW3]
  clear hW3
  obtain ⟨m0, m1, m2, m3, m4⟩ := box_cells hM3
  have hw : ∀ u : World, u.heap = W3.heap → Calls Try.prog 26 #[.pointer (some ⟨p, 0, none⟩)] u fun e w' => e = .returned (.int .i64 (S.flush.1.ws.length : Int)) ∧ w' = u := fun u hu => dk_waits (hP3.dk.keep (fun k _ _ => by rw [hu]))
  generalize hS1 : S.flush.1 = S1 at *
  generalize S.flush.2 = e1 at *
  go_quiet (first | (go_at_call 26; refine Calls.quiet_of_same (hw _ rfl)))
  go_wp2
  go_loopw [15] (fun x wr => x = .int .i64 0 ∧ wr.heap = W3.heap ∧ Below B w wr ∧ But (w.heap.size + 2) W3 wr) (fun _ _ => 0)
  case atStart => exact ⟨rfl, rfl, hb3.trans ⟨rfl, rfl, rfl, Nat.le_refl _, fun _ _ => rfl⟩, ⟨rfl, rfl, rfl, Nat.le_refl _, fun _ _ _ => rfl⟩⟩
  case round =>
    rename_i hrel
    obtain ⟨rfl, hh, hbr, hbt⟩ := hrel
    have hM4 := hM3.heap hh
    have hR4 := hR3.heap hh
    obtain ⟨m0, m1, m2, m3, m4⟩ := box_cells hM4
    obtain ⟨y0, y1, y2, y3, y4⟩ := box_cells hR4
    have fy := hR4.free
    have hP4 := hP3.but hbt (hF1H _ (by omega) (by omega)) (hGH _ (by omega) (by omega))
    go_wp2
    have hb5 := put5_but wr (w.heap.size + 2) (.slice sa2 n2 sc2) (.slice wa2 S1.ws.length wc2) (.bool S1.fused) (.int .i64 (S1.left : Int)) (.bool S1.off)
    refine bodyPost_ret (results_blk_tmp rfl _ _ _ rfl rAgg rSize (put5_same hR4 (.slice sa2 n2 sc2) (.slice wa2 S1.ws.length wc2) (.bool S1.fused) (.int .i64 (S1.left : Int)) (.bool S1.off)) rfl) rfl ?_
    exact ⟨[.slice sa2 n2 sc2, .slice wa2 S1.ws.length wc2, .bool S1.fused, .int .i64 (S1.left : Int), .bool S1.off], rfl, ⟨_, _, by rw [hS1]; exact hP4.but hb5 (hF1H _ (by omega) (by omega)) (hGH _ (by omega) (by omega)), hFx, hGx⟩, (fr3.but hbt (by omega)).but hb5 (by omega)⟩

end Go.Proofs.Ytjdidfocelagbaa
