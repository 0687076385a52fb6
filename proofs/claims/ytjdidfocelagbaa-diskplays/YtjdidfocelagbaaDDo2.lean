/-
  The function do of package disk's laws, at Fuse, Crash and Rot.
-/
import Derived.Test.YtjdidfocelagbaaDDo
namespace Go.Proofs.Ytjdidfocelagbaa
set_option linter.unusedSimpArgs false
set_option linter.unusedVariables false
open Go.RowKit

set_option maxRecDepth 100000 in
set_option maxHeartbeats 1000000 in
theorem do_fuse (B p : Nat) (F G : Nat → Prop) (cs : List Value) (S : DS) (pos : Int) (ba : Option Addr) (bc : Nat) (bs : List Int) (raw : Bool) (ka : Option Addr) (kc : Nat) (ks : List Int) (w : World) (hP : Pair B w F G p S cs S) (hB : B ≤ w.heap.size) (hl : S.ws.length ≤ 800000) (hpos : pos ≤ 9223372036854775807) :
    Calls Try.prog 8 #[.pointer (some ⟨p, 0, none⟩), .agg cs.toArray, .agg #[.int .i64 5, .int .i64 pos, .slice ba bs.length bc, .bool raw, .slice ka ks.length kc]] w fun e w' =>
      Did B p F G w (S.fuse pos) e w' := by
  obtain ⟨sa, n, sc, wa, wc, rfl⟩ := rf_cells hP.rf
  obtain ⟨W, hWe⟩ : ∃ W, W = ((((w.alloc (.cells #[.slice sa n sc, .slice wa S.ws.length wc, .bool S.fused, .int .i64 (S.left : Int), .bool S.off] 30)).alloc (.cells #[.int .i64 5, .int .i64 pos, .slice ba bs.length bc, .bool raw, .slice ka ks.length kc] 38)).alloc (.cells #[.slice none 0 0, .slice none 0 0, .bool false, .int .i64 0, .bool false] 30)).alloc (.cells #[] 5)).alloc (.cells #[] 5) := ⟨_, rfl⟩
  have hbW : Below w.heap.size w W := by rw [hWe]; exact (((((Below.refl _ _).alloc (Nat.le_refl _) _).alloc (by simp) _).alloc (by simp; omega) _).alloc (by simp; omega) _).alloc (by simp; omega) _
  have hM : Blk 30 W w.heap.size [.slice sa n sc, .slice wa S.ws.length wc, .bool S.fused, .int .i64 (S.left : Int), .bool S.off] := by rw [hWe]; exact ((((Blk.newAt rfl rfl).alloc _).alloc _).alloc _).alloc _
  have hA : Blk 38 W (w.heap.size + 1) [.int .i64 5, .int .i64 pos, .slice ba bs.length bc, .bool raw, .slice ka ks.length kc] := by rw [hWe]; exact (((Blk.newAt (by simp) rfl).alloc _).alloc _).alloc _
  have hR : Blk 30 W (w.heap.size + 2) [.slice none 0 0, .slice none 0 0, .bool false, .int .i64 0, .bool false] := by rw [hWe]; exact ((Blk.newAt (by simp) rfl).alloc _).alloc _
  have hPW := hP.stays hbW
  have hsW : W.heap.size = w.heap.size + 5 := by rw [hWe]; simp
  have hbWB : Below B w W := hbW.mono hB
  have hfl := dk_fuse hPW.dk pos hpos
  have HWE : Hid (W = _) := hWe
  clear hWe
  have hcvx := fun u => conv_empty ⟨w.heap.size + 3, 0, none⟩ 0 u
  have hcvy := fun u => conv_empty ⟨w.heap.size + 3 + 1, 0, none⟩ 0 u
  have hH : ∀ k, w.heap.size ≤ k → ¬ F k ∧ ¬ G k := fun k hk => ⟨fun h => by have := (hP.low k h).2; omega, fun h => by have := hP.lowG k h; omega⟩
  go_enter Try.func8, Try.ntmps8
  go_wp2_with (first
    | (go_at_call 23; rw [← HWE.out]; refine hfl.mono ?_; clear hfl; rintro e w1 ⟨⟨_, rfl⟩, hT⟩
       obtain ⟨F1, hP1, hF1, hb1⟩ := hPW.disk (by omega) hT
       have hM1 := box_keep hT.2 hM (hH _ (by omega)).1
       have hA1 := box_keep hT.2 hA (hH _ (by omega)).1
       have hR1 := box_keep hT.2 hR (hH _ (by omega)).1
       obtain ⟨m0, m1, m2, m3, m4⟩ := box_cells hM1
       obtain ⟨a0, a1, a2, a3, a4⟩ := box_cells hA1
       have hbw1 : Below B w w1 := hbWB.trans hb1
       have hrf := rfuse_run hP1.rf pos hpos)
    | (go_at_call 24; refine hrf.mono ?_; clear hrf; rintro e w2 ⟨cs2, rfl, hT2⟩
       have hP2 := hP1.ref hT2
       obtain ⟨sa2, n2, sc2, wa2, wc2, rfl⟩ := rf_cells hP2.rf
       have hM2 := hM1.stays hT2.2
       have hR2 := hR1.stays hT2.2
       obtain ⟨m0, m1, m2, m3, m4⟩ := box_cells hM2
       have fm := hM2.free))
  have hF1H : ∀ k, w.heap.size ≤ k → k < W.heap.size → ¬ F1 k := fun k h1 h2 h => by
    rcases hF1 k h with h | h
    · exact (hH k h1).1 h
    · omega
  have hGH : ∀ k, w.heap.size ≤ k → k < W.heap.size → ¬ ((G k ∨ w1.heap.size ≤ k) ∧ k < w2.heap.size) := fun k h1 h2 h => by
    rcases h.1 with h | h
    · exact (hH k h1).2 h
    · have := hT.2.size; omega
  obtain ⟨W3, hW3⟩ : ∃ W3, W3 = put5 w2 w.heap.size (.slice sa2 n2 sc2) (.slice wa2 (S.fuse pos).ws.length wc2) (.bool (S.fuse pos).fused) (.int .i64 ((S.fuse pos).left : Int)) (.bool (S.fuse pos).off) := ⟨_, rfl⟩
  have hbut3 : But w.heap.size w2 W3 := by rw [hW3]; exact put5_but _ _ _ _ _ _ _
  have hP3 := hP2.but hbut3 (hF1H _ (by omega) (by omega)) (hGH _ (by omega) (by omega))
  have hM3 : Blk 30 W3 w.heap.size [.slice sa2 n2 sc2, .slice wa2 (S.fuse pos).ws.length wc2, .bool (S.fuse pos).fused, .int .i64 ((S.fuse pos).left : Int), .bool (S.fuse pos).off] := by rw [hW3]; exact put5_same hM2 _ _ _ _ _
  have hR3 := hR2.but hbut3 (by omega)
  have hb3 : Below B w W3 := by
    have h2 : Below B w w2 := hbw1.trans (hT2.2.mono (by have := hbw1.size; omega))
    exact h2.trans (hbut3.below hB (by have := h2.size; omega))
  have fr3 : Fr F w W3 := ((Fr.disk (Frm.of_below hbW) hT.2).grow hT2.2).but hbut3 (Nat.le_refl _)
  have hFx : ∀ k, F1 k → F k ∨ w.heap.size ≤ k := fun k h => by
    rcases hF1 k h with h | h
    · exact .inl h
    · exact .inr (by omega)
  have hGx : ∀ k, ((G k ∨ w1.heap.size ≤ k) ∧ k < w2.heap.size) → G k ∨ w.heap.size ≤ k := fun k h => by
    rcases h.1 with h | h
    · exact .inl h
    · exact .inr (by have := hT.2.size; omega)
  unfold put5 at hW3
  rw [← hW3]
  clear hW3
  obtain ⟨m0, m1, m2, m3, m4⟩ := box_cells hM3
  have hw : ∀ u : World, u.heap = W3.heap → Calls Try.prog 26 #[.pointer (some ⟨p, 0, none⟩)] u fun e w' => e = .returned (.int .i64 ((S.fuse pos).ws.length : Int)) ∧ w' = u := fun u hu => dk_waits (hP3.dk.keep (fun k _ _ => by rw [hu]))
  generalize hS1 : (S.fuse pos) = S1 at *
  go_quiet (first | (go_at_call 26; refine Calls.quiet_of_same (hw _ rfl)))
  go_wp2
  go_loopw [15] (fun x wr => x = .int .i64 0 ∧ wr.heap = W3.heap ∧ Below B w wr ∧ But (w.heap.size + 2) W3 wr) (fun _ _ => 0)
  case atStart => exact ⟨rfl, rfl, hb3.trans ⟨rfl, rfl, rfl, Nat.le_refl _, fun _ _ => rfl⟩, ⟨rfl, rfl, rfl, Nat.le_refl _, fun _ _ _ => rfl⟩⟩
  case round =>
    rename_i hrel
    obtain ⟨rfl, hh, hbr, hbt⟩ := hrel
    have hM4 := hM3.heap hh
    have hR4 := hR3.heap hh
    obtain ⟨m0, m1, m2, m3, m4⟩ := box_cells hM4
    obtain ⟨y0, y1, y2, y3, y4⟩ := box_cells hR4
    have fy := hR4.free
    have hP4 := hP3.but hbt (hF1H _ (by omega) (by omega)) (hGH _ (by omega) (by omega))
    go_wp2
    have hb5 := put5_but wr (w.heap.size + 2) (.slice sa2 n2 sc2) (.slice wa2 S1.ws.length wc2) (.bool S1.fused) (.int .i64 (S1.left : Int)) (.bool S1.off)
    refine bodyPost_ret (results_blk_tmp rfl _ _ _ rfl rAgg rSize (put5_same hR4 (.slice sa2 n2 sc2) (.slice wa2 S1.ws.length wc2) (.bool S1.fused) (.int .i64 (S1.left : Int)) (.bool S1.off)) rfl) rfl ?_
    exact ⟨[.slice sa2 n2 sc2, .slice wa2 S1.ws.length wc2, .bool S1.fused, .int .i64 (S1.left : Int), .bool S1.off], rfl, ⟨_, _, by rw [hS1]; exact hP4.but hb5 (hF1H _ (by omega) (by omega)) (hGH _ (by omega) (by omega)), hFx, hGx⟩, (fr3.but hbt (by omega)).but hb5 (by omega)⟩

set_option maxRecDepth 100000 in
set_option maxHeartbeats 1000000 in
theorem do_crash (B p : Nat) (F G : Nat → Prop) (cs : List Value) (S : DS) (pos : Int) (ba : Option Addr) (bc : Nat) (bs : List Int) (raw : Bool) (ka : Option Addr) (kc : Nat) (ks : List Int) (w : World) (hP : Pair B w F G p S cs S) (hB : B ≤ w.heap.size) (hl : S.ws.length ≤ 800000) (hks : ∀ u, Below B w u → Is u ka ks) (hkl : ks.length ≤ 60) (hkb : ks ≠ [] → ∀ x, ka = some x → x.block < B) :
    Calls Try.prog 8 #[.pointer (some ⟨p, 0, none⟩), .agg cs.toArray, .agg #[.int .i64 3, .int .i64 pos, .slice ba bs.length bc, .bool raw, .slice ka ks.length kc]] w fun e w' =>
      Did B p F G w (S.crash ks) e w' := by
  obtain ⟨sa, n, sc, wa, wc, rfl⟩ := rf_cells hP.rf
  obtain ⟨W, hWe⟩ : ∃ W, W = ((((w.alloc (.cells #[.slice sa n sc, .slice wa S.ws.length wc, .bool S.fused, .int .i64 (S.left : Int), .bool S.off] 30)).alloc (.cells #[.int .i64 3, .int .i64 pos, .slice ba bs.length bc, .bool raw, .slice ka ks.length kc] 38)).alloc (.cells #[.slice none 0 0, .slice none 0 0, .bool false, .int .i64 0, .bool false] 30)).alloc (.cells #[] 5)).alloc (.cells #[] 5) := ⟨_, rfl⟩
  have hbW : Below w.heap.size w W := by rw [hWe]; exact (((((Below.refl _ _).alloc (Nat.le_refl _) _).alloc (by simp) _).alloc (by simp; omega) _).alloc (by simp; omega) _).alloc (by simp; omega) _
  have hM : Blk 30 W w.heap.size [.slice sa n sc, .slice wa S.ws.length wc, .bool S.fused, .int .i64 (S.left : Int), .bool S.off] := by rw [hWe]; exact ((((Blk.newAt rfl rfl).alloc _).alloc _).alloc _).alloc _
  have hA : Blk 38 W (w.heap.size + 1) [.int .i64 3, .int .i64 pos, .slice ba bs.length bc, .bool raw, .slice ka ks.length kc] := by rw [hWe]; exact (((Blk.newAt (by simp) rfl).alloc _).alloc _).alloc _
  have hR : Blk 30 W (w.heap.size + 2) [.slice none 0 0, .slice none 0 0, .bool false, .int .i64 0, .bool false] := by rw [hWe]; exact ((Blk.newAt (by simp) rfl).alloc _).alloc _
  have hPW := hP.stays hbW
  have hsW : W.heap.size = w.heap.size + 5 := by rw [hWe]; simp
  have hbWB : Below B w W := hbW.mono hB
  have hfl := dk_crash hPW.dk (by omega) ka kc ks (hks W hbWB) (by omega) (fun h0 x hx hF => by have := hkb h0 x hx; have := (hP.low _ hF).1; omega)
  have HWE : Hid (W = _) := hWe
  clear hWe
  have hcvx := fun u => conv_empty ⟨w.heap.size + 3, 0, none⟩ 0 u
  have hcvy := fun u => conv_empty ⟨w.heap.size + 3 + 1, 0, none⟩ 0 u
  have hH : ∀ k, w.heap.size ≤ k → ¬ F k ∧ ¬ G k := fun k hk => ⟨fun h => by have := (hP.low k h).2; omega, fun h => by have := hP.lowG k h; omega⟩
  go_enter Try.func8, Try.ntmps8
  go_wp2_with (first
    | (go_at_call 15; rw [← HWE.out]; refine hfl.mono ?_; clear hfl; rintro e w1 ⟨⟨_, rfl⟩, hT⟩
       obtain ⟨F1, hP1, hF1, hb1⟩ := hPW.disk (by omega) hT
       have hM1 := box_keep hT.2 hM (hH _ (by omega)).1
       have hA1 := box_keep hT.2 hA (hH _ (by omega)).1
       have hR1 := box_keep hT.2 hR (hH _ (by omega)).1
       obtain ⟨m0, m1, m2, m3, m4⟩ := box_cells hM1
       obtain ⟨a0, a1, a2, a3, a4⟩ := box_cells hA1
       have hbw1 : Below B w w1 := hbWB.trans hb1
       have hrf := rcrash_run hP1.rf (by omega) ka kc ks (hks w1 hbw1) (by omega))
    | (go_at_call 20; refine hrf.mono ?_; clear hrf; rintro e w2 ⟨cs2, rfl, hT2⟩
       have hP2 := hP1.ref hT2
       obtain ⟨sa2, n2, sc2, wa2, wc2, rfl⟩ := rf_cells hP2.rf
       have hM2 := hM1.stays hT2.2
       have hR2 := hR1.stays hT2.2
       obtain ⟨m0, m1, m2, m3, m4⟩ := box_cells hM2
       have fm := hM2.free))
  have hF1H : ∀ k, w.heap.size ≤ k → k < W.heap.size → ¬ F1 k := fun k h1 h2 h => by
    rcases hF1 k h with h | h
    · exact (hH k h1).1 h
    · omega
  have hGH : ∀ k, w.heap.size ≤ k → k < W.heap.size → ¬ ((G k ∨ w1.heap.size ≤ k) ∧ k < w2.heap.size) := fun k h1 h2 h => by
    rcases h.1 with h | h
    · exact (hH k h1).2 h
    · have := hT.2.size; omega
  obtain ⟨W3, hW3⟩ : ∃ W3, W3 = put5 w2 w.heap.size (.slice sa2 n2 sc2) (.slice wa2 (S.crash ks).ws.length wc2) (.bool (S.crash ks).fused) (.int .i64 ((S.crash ks).left : Int)) (.bool (S.crash ks).off) := ⟨_, rfl⟩
  have hbut3 : But w.heap.size w2 W3 := by rw [hW3]; exact put5_but _ _ _ _ _ _ _
  have hP3 := hP2.but hbut3 (hF1H _ (by omega) (by omega)) (hGH _ (by omega) (by omega))
  have hM3 : Blk 30 W3 w.heap.size [.slice sa2 n2 sc2, .slice wa2 (S.crash ks).ws.length wc2, .bool (S.crash ks).fused, .int .i64 ((S.crash ks).left : Int), .bool (S.crash ks).off] := by rw [hW3]; exact put5_same hM2 _ _ _ _ _
  have hR3 := hR2.but hbut3 (by omega)
  have hb3 : Below B w W3 := by
    have h2 : Below B w w2 := hbw1.trans (hT2.2.mono (by have := hbw1.size; omega))
    exact h2.trans (hbut3.below hB (by have := h2.size; omega))
  have fr3 : Fr F w W3 := ((Fr.disk (Frm.of_below hbW) hT.2).grow hT2.2).but hbut3 (Nat.le_refl _)
  have hFx : ∀ k, F1 k → F k ∨ w.heap.size ≤ k := fun k h => by
    rcases hF1 k h with h | h
    · exact .inl h
    · exact .inr (by omega)
  have hGx : ∀ k, ((G k ∨ w1.heap.size ≤ k) ∧ k < w2.heap.size) → G k ∨ w.heap.size ≤ k := fun k h => by
    rcases h.1 with h | h
    · exact .inl h
    · exact .inr (by have := hT.2.size; omega)
  unfold put5 at hW3
  rw [← hW3]
  clear hW3
  obtain ⟨m0, m1, m2, m3, m4⟩ := box_cells hM3
  have hw : ∀ u : World, u.heap = W3.heap → Calls Try.prog 26 #[.pointer (some ⟨p, 0, none⟩)] u fun e w' => e = .returned (.int .i64 ((S.crash ks).ws.length : Int)) ∧ w' = u := fun u hu => dk_waits (hP3.dk.keep (fun k _ _ => by rw [hu]))
  generalize hS1 : (S.crash ks) = S1 at *
  go_quiet (first | (go_at_call 26; refine Calls.quiet_of_same (hw _ rfl)))
  go_wp2
  go_loopw [15] (fun x wr => x = .int .i64 0 ∧ wr.heap = W3.heap ∧ Below B w wr ∧ But (w.heap.size + 2) W3 wr) (fun _ _ => 0)
  case atStart => exact ⟨rfl, rfl, hb3.trans ⟨rfl, rfl, rfl, Nat.le_refl _, fun _ _ => rfl⟩, ⟨rfl, rfl, rfl, Nat.le_refl _, fun _ _ _ => rfl⟩⟩
  case round =>
    rename_i hrel
    obtain ⟨rfl, hh, hbr, hbt⟩ := hrel
    have hM4 := hM3.heap hh
    have hR4 := hR3.heap hh
    obtain ⟨m0, m1, m2, m3, m4⟩ := box_cells hM4
    obtain ⟨y0, y1, y2, y3, y4⟩ := box_cells hR4
    have fy := hR4.free
    have hP4 := hP3.but hbt (hF1H _ (by omega) (by omega)) (hGH _ (by omega) (by omega))
    go_wp2
    have hb5 := put5_but wr (w.heap.size + 2) (.slice sa2 n2 sc2) (.slice wa2 S1.ws.length wc2) (.bool S1.fused) (.int .i64 (S1.left : Int)) (.bool S1.off)
    refine bodyPost_ret (results_blk_tmp rfl _ _ _ rfl rAgg rSize (put5_same hR4 (.slice sa2 n2 sc2) (.slice wa2 S1.ws.length wc2) (.bool S1.fused) (.int .i64 (S1.left : Int)) (.bool S1.off)) rfl) rfl ?_
    exact ⟨[.slice sa2 n2 sc2, .slice wa2 S1.ws.length wc2, .bool S1.fused, .int .i64 (S1.left : Int), .bool S1.off], rfl, ⟨_, _, by rw [hS1]; exact hP4.but hb5 (hF1H _ (by omega) (by omega)) (hGH _ (by omega) (by omega)), hFx, hGx⟩, (fr3.but hbt (by omega)).but hb5 (by omega)⟩

set_option maxRecDepth 100000 in
set_option maxHeartbeats 1000000 in
theorem do_rot (B p : Nat) (F G : Nat → Prop) (cs : List Value) (S : DS) (pos : Int) (ba : Option Addr) (bc : Nat) (bs : List Int) (raw : Bool) (ka : Option Addr) (kc : Nat) (ks : List Int) (w : World) (hP : Pair B w F G p S cs S) (hB : B ≤ w.heap.size) (hl : S.ws.length ≤ 800000) (hbs : ∀ u, Below B w u → Bs u ba bc bs) (hbl : bs.length ≤ 300) (hbb : bs ≠ [] → ∀ x, ba = some x → x.block < B) :
    Calls Try.prog 8 #[.pointer (some ⟨p, 0, none⟩), .agg cs.toArray, .agg #[.int .i64 4, .int .i64 pos, .slice ba bs.length bc, .bool raw, .slice ka ks.length kc]] w fun e w' =>
      Did B p F G w ((S.rot pos bs).1) e w' := by
  obtain ⟨sa, n, sc, wa, wc, rfl⟩ := rf_cells hP.rf
  obtain ⟨W, hWe⟩ : ∃ W, W = ((((w.alloc (.cells #[.slice sa n sc, .slice wa S.ws.length wc, .bool S.fused, .int .i64 (S.left : Int), .bool S.off] 30)).alloc (.cells #[.int .i64 4, .int .i64 pos, .slice ba bs.length bc, .bool raw, .slice ka ks.length kc] 38)).alloc (.cells #[.slice none 0 0, .slice none 0 0, .bool false, .int .i64 0, .bool false] 30)).alloc (.cells #[] 5)).alloc (.cells #[] 5) := ⟨_, rfl⟩
  have hbW : Below w.heap.size w W := by rw [hWe]; exact (((((Below.refl _ _).alloc (Nat.le_refl _) _).alloc (by simp) _).alloc (by simp; omega) _).alloc (by simp; omega) _).alloc (by simp; omega) _
  have hM : Blk 30 W w.heap.size [.slice sa n sc, .slice wa S.ws.length wc, .bool S.fused, .int .i64 (S.left : Int), .bool S.off] := by rw [hWe]; exact ((((Blk.newAt rfl rfl).alloc _).alloc _).alloc _).alloc _
  have hA : Blk 38 W (w.heap.size + 1) [.int .i64 4, .int .i64 pos, .slice ba bs.length bc, .bool raw, .slice ka ks.length kc] := by rw [hWe]; exact (((Blk.newAt (by simp) rfl).alloc _).alloc _).alloc _
  have hR : Blk 30 W (w.heap.size + 2) [.slice none 0 0, .slice none 0 0, .bool false, .int .i64 0, .bool false] := by rw [hWe]; exact ((Blk.newAt (by simp) rfl).alloc _).alloc _
  have hPW := hP.stays hbW
  have hsW : W.heap.size = w.heap.size + 5 := by rw [hWe]; simp
  have hbWB : Below B w W := hbW.mono hB
  have hfl := dk_rot hPW.dk pos ba bc bs (hbs W hbWB) (by omega) (fun h0 x hx hF => by have := hbb h0 x hx; have := (hP.low _ hF).1; omega)
  have HWE : Hid (W = _) := hWe
  clear hWe
  have hcvx := fun u => conv_empty ⟨w.heap.size + 3, 0, none⟩ 0 u
  have hcvy := fun u => conv_empty ⟨w.heap.size + 3 + 1, 0, none⟩ 0 u
  have hH : ∀ k, w.heap.size ≤ k → ¬ F k ∧ ¬ G k := fun k hk => ⟨fun h => by have := (hP.low k h).2; omega, fun h => by have := hP.lowG k h; omega⟩
  go_enter Try.func8, Try.ntmps8
  go_wp2_with (first
    | (go_at_call 21; rw [← HWE.out]; refine hfl.mono ?_; clear hfl; rintro e w1 ⟨rfl, hT⟩
       obtain ⟨F1, hP1, hF1, hb1⟩ := hPW.disk (by omega) hT
       have hM1 := box_keep hT.2 hM (hH _ (by omega)).1
       have hA1 := box_keep hT.2 hA (hH _ (by omega)).1
       have hR1 := box_keep hT.2 hR (hH _ (by omega)).1
       obtain ⟨m0, m1, m2, m3, m4⟩ := box_cells hM1
       obtain ⟨a0, a1, a2, a3, a4⟩ := box_cells hA1
       have hbw1 : Below B w w1 := hbWB.trans hb1
       have hrf := rrot_run hP1.rf pos ba bc bs (hbs w1 hbw1))
    | (go_at_call 22; refine hrf.mono ?_; clear hrf; rintro e w2 ⟨cs2, rfl, hT2⟩
       have hP2 := hP1.ref hT2
       obtain ⟨sa2, n2, sc2, wa2, wc2, rfl⟩ := rf_cells hP2.rf
       have hM2 := hM1.stays hT2.2
       have hR2 := hR1.stays hT2.2
       obtain ⟨m0, m1, m2, m3, m4⟩ := box_cells hM2
       have fm := hM2.free))
  have hF1H : ∀ k, w.heap.size ≤ k → k < W.heap.size → ¬ F1 k := fun k h1 h2 h => by
    rcases hF1 k h with h | h
    · exact (hH k h1).1 h
    · omega
  have hGH : ∀ k, w.heap.size ≤ k → k < W.heap.size → ¬ ((G k ∨ w1.heap.size ≤ k) ∧ k < w2.heap.size) := fun k h1 h2 h => by
    rcases h.1 with h | h
    · exact (hH k h1).2 h
    · have := hT.2.size; omega
  obtain ⟨W3, hW3⟩ : ∃ W3, W3 = put5 w2 w.heap.size (.slice sa2 n2 sc2) (.slice wa2 ((S.rot pos bs).1).ws.length wc2) (.bool ((S.rot pos bs).1).fused) (.int .i64 (((S.rot pos bs).1).left : Int)) (.bool ((S.rot pos bs).1).off) := ⟨_, rfl⟩
  have hbut3 : But w.heap.size w2 W3 := by rw [hW3]; exact put5_but _ _ _ _ _ _ _
  have hP3 := hP2.but hbut3 (hF1H _ (by omega) (by omega)) (hGH _ (by omega) (by omega))
  have hM3 : Blk 30 W3 w.heap.size [.slice sa2 n2 sc2, .slice wa2 ((S.rot pos bs).1).ws.length wc2, .bool ((S.rot pos bs).1).fused, .int .i64 (((S.rot pos bs).1).left : Int), .bool ((S.rot pos bs).1).off] := by rw [hW3]; exact put5_same hM2 _ _ _ _ _
  have hR3 := hR2.but hbut3 (by omega)
  have hb3 : Below B w W3 := by
    have h2 : Below B w w2 := hbw1.trans (hT2.2.mono (by have := hbw1.size; omega))
    exact h2.trans (hbut3.below hB (by have := h2.size; omega))
  have fr3 : Fr F w W3 := ((Fr.disk (Frm.of_below hbW) hT.2).grow hT2.2).but hbut3 (Nat.le_refl _)
  have hFx : ∀ k, F1 k → F k ∨ w.heap.size ≤ k := fun k h => by
    rcases hF1 k h with h | h
    · exact .inl h
    · exact .inr (by omega)
  have hGx : ∀ k, ((G k ∨ w1.heap.size ≤ k) ∧ k < w2.heap.size) → G k ∨ w.heap.size ≤ k := fun k h => by
    rcases h.1 with h | h
    · exact .inl h
    · exact .inr (by have := hT.2.size; omega)
  unfold put5 at hW3
  rw [← hW3]
  clear hW3
  obtain ⟨m0, m1, m2, m3, m4⟩ := box_cells hM3
  have hw : ∀ u : World, u.heap = W3.heap → Calls Try.prog 26 #[.pointer (some ⟨p, 0, none⟩)] u fun e w' => e = .returned (.int .i64 (((S.rot pos bs).1).ws.length : Int)) ∧ w' = u := fun u hu => dk_waits (hP3.dk.keep (fun k _ _ => by rw [hu]))
  generalize hS1 : ((S.rot pos bs).1) = S1 at *
  generalize (S.rot pos bs).2 = e1 at *
  go_quiet (first | (go_at_call 26; refine Calls.quiet_of_same (hw _ rfl)))
  go_wp2
  go_loopw [15] (fun x wr => x = .int .i64 0 ∧ wr.heap = W3.heap ∧ Below B w wr ∧ But (w.heap.size + 2) W3 wr) (fun _ _ => 0)
  case atStart => exact ⟨rfl, rfl, hb3.trans ⟨rfl, rfl, rfl, Nat.le_refl _, fun _ _ => rfl⟩, ⟨rfl, rfl, rfl, Nat.le_refl _, fun _ _ _ => rfl⟩⟩
  case round =>
    rename_i hrel
    obtain ⟨rfl, hh, hbr, hbt⟩ := hrel
    have hM4 := hM3.heap hh
    have hR4 := hR3.heap hh
    obtain ⟨m0, m1, m2, m3, m4⟩ := box_cells hM4
    obtain ⟨y0, y1, y2, y3, y4⟩ := box_cells hR4
    have fy := hR4.free
    have hP4 := hP3.but hbt (hF1H _ (by omega) (by omega)) (hGH _ (by omega) (by omega))
    go_wp2
    have hb5 := put5_but wr (w.heap.size + 2) (.slice sa2 n2 sc2) (.slice wa2 S1.ws.length wc2) (.bool S1.fused) (.int .i64 (S1.left : Int)) (.bool S1.off)
    refine bodyPost_ret (results_blk_tmp rfl _ _ _ rfl rAgg rSize (put5_same hR4 (.slice sa2 n2 sc2) (.slice wa2 S1.ws.length wc2) (.bool S1.fused) (.int .i64 (S1.left : Int)) (.bool S1.off)) rfl) rfl ?_
    exact ⟨[.slice sa2 n2 sc2, .slice wa2 S1.ws.length wc2, .bool S1.fused, .int .i64 (S1.left : Int), .bool S1.off], rfl, ⟨_, _, by rw [hS1]; exact hP4.but hb5 (hF1H _ (by omega) (by omega)) (hGH _ (by omega) (by omega)), hFx, hGx⟩, (fr3.but hbt (by omega)).but hb5 (by omega)⟩

end Go.Proofs.Ytjdidfocelagbaa
