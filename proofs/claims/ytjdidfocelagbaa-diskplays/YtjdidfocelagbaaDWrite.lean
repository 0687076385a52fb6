/-
  The function do of package disk's laws, at Write.
-/
import Derived.Test.YtjdidfocelagbaaDRead
namespace Go.Proofs.Ytjdidfocelagbaa
set_option linter.unusedSimpArgs false
set_option linter.unusedVariables false
open Go.RowKit

/-- A region, and what holds behind it. -/
def midQ (Mid : Act → World → Prop) : Exit → Act → World → Prop
  | .normal, a, w => Mid a w
  | _, _, _ => False
theorem wp_mid {P : Program} {c : Code} {Q : Exit → Act → World → Prop} {a : Act} {w : World} (Mid : Act → Act → World → Prop) (h : c.wp P (midQ (Mid a)) a w) (hq : ∀ a' w', Mid a a' w' → Q .normal a' w') : c.wp P Q a w :=
  Code.wp_mono (fun e a' w' hh => by
    cases e with
    | normal => exact hq a' w' hh
    | _ => exact False.elim hh) h

set_option maxRecDepth 100000 in
set_option maxHeartbeats 4000000 in
theorem do_write (B p : Nat) (F G : Nat → Prop) (cs : List Value) (S : DS) (pos : Int) (ba : Option Addr) (bc : Nat) (bs : List Int) (raw : Bool) (ka : Option Addr) (kc : Nat) (ks : List Int) (w : World) (hP : Pair B w F G p S cs S) (hB : B ≤ w.heap.size) (hl : S.ws.length ≤ 800000)
    (hbs : ∀ u, Below B w u → Bs u ba bc bs) (hbl : bs.length ≤ 300) :
    Calls Try.prog 8 #[.pointer (some ⟨p, 0, none⟩), .agg cs.toArray, .agg #[.int .i64 1, .int .i64 pos, .slice ba bs.length bc, .bool raw, .slice ka ks.length kc]] w fun e w' =>
      Did B p F G w (S.write pos (ActV.sec ⟨1, pos, ba, bc, bs, raw, ka, kc, ks⟩)).1 e w' := by
  obtain ⟨sa, n, sc, wa, wc, rfl⟩ := rf_cells hP.rf
  obtain ⟨W, hWe⟩ : ∃ W, W = ((((w.alloc (.cells #[.slice sa n sc, .slice wa S.ws.length wc, .bool S.fused, .int .i64 (S.left : Int), .bool S.off] 30)).alloc (.cells #[.int .i64 1, .int .i64 pos, .slice ba bs.length bc, .bool raw, .slice ka ks.length kc] 38)).alloc (.cells #[.slice none 0 0, .slice none 0 0, .bool false, .int .i64 0, .bool false] 30)).alloc (.cells #[] 5)).alloc (.cells #[] 5) := ⟨_, rfl⟩
  have hbW : Below w.heap.size w W := by rw [hWe]; exact (((((Below.refl _ _).alloc (Nat.le_refl _) _).alloc (by simp) _).alloc (by simp; omega) _).alloc (by simp; omega) _).alloc (by simp; omega) _
  have hM : Blk 30 W w.heap.size [.slice sa n sc, .slice wa S.ws.length wc, .bool S.fused, .int .i64 (S.left : Int), .bool S.off] := by rw [hWe]; exact ((((Blk.newAt rfl rfl).alloc _).alloc _).alloc _).alloc _
  have hA : Blk 38 W (w.heap.size + 1) [.int .i64 1, .int .i64 pos, .slice ba bs.length bc, .bool raw, .slice ka ks.length kc] := by rw [hWe]; exact (((Blk.newAt (by simp) rfl).alloc _).alloc _).alloc _
  have hR : Blk 30 W (w.heap.size + 2) [.slice none 0 0, .slice none 0 0, .bool false, .int .i64 0, .bool false] := by rw [hWe]; exact ((Blk.newAt (by simp) rfl).alloc _).alloc _
  have hPW := hP.stays hbW
  have hsW : W.heap.size = w.heap.size + 5 := by rw [hWe]; simp
  have hbWB : Below B w W := hbW.mono hB
  obtain ⟨Y, hY⟩ : ∃ Y, Y = ActV.sec ⟨1, pos, ba, bc, bs, raw, ka, kc, ks⟩ := ⟨_, rfl⟩
  have hYr : ∀ y ∈ Y, 0 ≤ y ∧ y ≤ 255 := by rw [hY]; exact sec_rng (hbs w (Below.refl _ _)).rng
  have HSEC : Hid (∀ u, Below B w u → Calls Try.prog 16 #[.agg #[.int .i64 1, .int .i64 pos, .slice ba bs.length bc, .bool raw, .slice ka ks.length kc]] u fun e w' => ∃ v, e = .returned v ∧ Out u.heap.size w' v Y ∧ Below u.heap.size u w') := fun u hu => by rw [hY]; exact sec_run ⟨1, pos, ba, bc, bs, raw, ka, kc, ks⟩ u (hbs u hu) hbl
  rw [← hY]
  have hsec := HSEC.out W hbWB
  have HWE : Hid (W = _) := hWe
  clear hWe hY
  have hcvx := fun u => conv_empty ⟨w.heap.size + 3, 0, none⟩ 0 u
  have hcvy := fun u => conv_empty ⟨w.heap.size + 3 + 1, 0, none⟩ 0 u
  have HH : Hid (∀ k, w.heap.size ≤ k → ¬ F k ∧ ¬ G k) := fun k hk => ⟨fun h => by have := (hP.low k h).2; omega, fun h => by have := hP.lowG k h; omega⟩
  go_enter Try.func8, Try.ntmps8
  go_wp2_with (first
    | (go_at_call 16; rw [← HWE.out]; go_must (refine hsec.mono ?_); rintro e w1 ⟨v1, rfl, hO1, hb1⟩
       obtain ⟨ao, co, rfl⟩ := Out.form hO1
       have hP1 := hPW.stays hb1
       have hM1 := hM.stays hb1
       have hA1 := hA.stays hb1
       have hR1 := hR.stays hb1
       have hOB := Out.bs hO1 hYr
       obtain ⟨a0, a1, a2, a3, a4⟩ := box_cells hA1
       have hwr := dk_write hP1.dk pos ao co Y hOB.2.1 (fun x hx => (HH.out _ (by have := hOB.2.2 x hx; omega)).1) (by omega))
    | (go_at_call 13; go_must (refine hwr.mono ?_); rintro e w2 ⟨rfl, hT⟩
       obtain ⟨F1, hP2, hF1, hb2⟩ := hP1.disk (by have := hb1.size; omega) hT
       have hM2 := box_keep hT.2 hM1 (HH.out _ (by omega)).1
       have hA2 := box_keep hT.2 hA1 (HH.out _ (by omega)).1
       have hR2 := box_keep hT.2 hR1 (HH.out _ (by omega)).1))
  obtain ⟨S1, hS1⟩ : ∃ S1, S1 = (S.write pos Y).1 := ⟨_, rfl⟩
  obtain ⟨E1, hE1⟩ : ∃ E1, E1 = (S.write pos Y).2 := ⟨_, rfl⟩
  rw [← hS1] at hP2
  have HS1 : Hid (S1 = (S.write pos Y).1 ∧ E1 = (S.write pos Y).2) := ⟨hS1, hE1⟩
  rw [← hE1]
  have hX1 : Below w.heap.size w w1 := hbW.trans (hb1.mono hbW.size)
  have hX2 : Below B w w2 := (hX1.mono hB).trans hb2
  have hP2d := hP2.stays (Below.refl w2.heap.size w2).drew
  have hM2d : Blk 30 w2.drew w.heap.size [.slice sa n sc, .slice wa S.ws.length wc, .bool S.fused, .int .i64 (S.left : Int), .bool S.off] := hM2
  have hA2d : Blk 38 w2.drew (w.heap.size + 1) [.int .i64 1, .int .i64 pos, .slice ba bs.length bc, .bool raw, .slice ka ks.length kc] := hA2
  obtain ⟨m0, m1, m2, m3, m4⟩ := box_cells hM2d
  obtain ⟨a0, a1, a2, a3, a4⟩ := box_cells hA2d
  have hcs := HSEC.out w2.drew hX2.drew
  have z1 := hX1.size
  have z2 := hT.2.size
  have HPUT : Hid (∀ u a c, Rf u G [.slice sa n sc, .slice wa S.ws.length wc, .bool S.fused, .int .i64 (S.left : Int), .bool S.off] S → Bs u a c Y → Calls Try.prog 17 #[.agg #[.slice sa n sc, .slice wa S.ws.length wc, .bool S.fused, .int .i64 (S.left : Int), .bool S.off], .int .i64 pos, .slice a Y.length c] u fun e w' => ∃ cs', e = .returned (.tuple #[.agg cs'.toArray, .int .i64 E1]) ∧ RThen G u w' cs' S1) := fun u a c hu hb => by
    rw [hS1, hE1]; exact rput_run hu pos a c Y hb (by omega)
  clear hS1 hE1 hM1 hA1 hR1 hwr hsec hM hA hR hPW
  refine wp_mid (fun A a' w' => ∃ v48 sa5 n5 sc5 wa5 wc5 w4 w5, w' = put5 w5 w.heap.size (.slice sa5 n5 sc5) (.slice wa5 S1.ws.length wc5) (.bool S1.fused) (.int .i64 (S1.left : Int)) (.bool S1.off)
      ∧ a' = ((((((((((A.put (some 44) (.agg #[.slice sa n sc, .slice wa S.ws.length wc, .bool S.fused, .int .i64 (S.left : Int), .bool S.off])).put (some 45) (.pointer (some ⟨w.heap.size + 1, 1, none⟩))).put (some 46) (.int .i64 pos)).put (some 47) (.agg #[.int .i64 1, .int .i64 pos, .slice ba bs.length bc, .bool raw, .slice ka ks.length kc])).put (some 48) v48).put (some 49) (.tuple #[.agg #[.slice sa5 n5 sc5, .slice wa5 S1.ws.length wc5, .bool S1.fused, .int .i64 (S1.left : Int), .bool S1.off], .int .i64 E1])).put (some 43) (.tuple #[.agg #[.slice sa5 n5 sc5, .slice wa5 S1.ws.length wc5, .bool S1.fused, .int .i64 (S1.left : Int), .bool S1.off], .int .i64 E1])).put (some 50) (.agg #[.slice sa5 n5 sc5, .slice wa5 S1.ws.length wc5, .bool S1.fused, .int .i64 (S1.left : Int), .bool S1.off])).put (some 51) (.int .i64 E1)).put (some 9) (.int .i64 E1))
      ∧ Below w2.heap.size w2 w4 ∧ RThen G w4 w5 [.slice sa5 n5 sc5, .slice wa5 S1.ws.length wc5, .bool S1.fused, .int .i64 (S1.left : Int), .bool S1.off] S1) ?_ ?_
  · go_region_law
      (first
        | (refine step_call rfl 16 #[.agg #[.int .i64 1, .int .i64 pos, .slice ba bs.length bc, .bool raw, .slice ka ks.length kc]] (by go_simp) hcs ?_; rintro e w4 ⟨v4, rfl, hO4, hb4⟩; refine ⟨_, rfl, ?_⟩
           have hb4' : Below w2.heap.size w2 w4 := ⟨hb4.os, hb4.tape, hb4.output, hb4.size, hb4.block⟩
           obtain ⟨a4', c4', rfl⟩ := Out.form hO4
           have hB4 := (Out.bs hO4 hYr).2.1
           have hP4 := hP2d.stays hb4
           have hM4 := hM2d.stays hb4
           have hA4 := hA2d.stays hb4
           obtain ⟨n0, n1, n2, n3, n4⟩ := box_cells hM4
           obtain ⟨b0, b1, b2, b3, b4⟩ := box_cells hA4
           have hpu := HPUT.out w4 a4' c4' hP4.rf hB4)
        | (refine step_call rfl 17 #[.agg #[.slice sa n sc, .slice wa S.ws.length wc, .bool S.fused, .int .i64 (S.left : Int), .bool S.off], .int .i64 pos, .slice a4' Y.length c4'] (by go_simp) hpu ?_; rintro e w5 ⟨cs5, rfl, hT5⟩; refine ⟨_, rfl, ?_⟩
           obtain ⟨sa5, n5, sc5, wa5, wc5, rfl⟩ := rf_cells hT5.1
           have hM5 := hM4.stays hT5.2
           obtain ⟨q0, q1, q2, q3, q4⟩ := box_cells hM5
           have fm := hM5.free))
    all_goals (simp only [midQ]; exact ⟨.slice a4' Y.length c4', sa5, n5, sc5, wa5, wc5, w4, w5, rfl, by kernel_rfl, hb4', hT5⟩)
  · rintro a' w3 ⟨v48, sa5, n5, sc5, wa5, wc5, w4, w5, hw3, rfl, hb4, hT5⟩
    have hbut3 : But w.heap.size w5 w3 := by rw [hw3]; exact put5_but _ _ _ _ _ _ _
    have hP4 := hP2.stays hb4
    have hP5 := hP4.ref hT5
    have hM4 := hM2.stays hb4
    have hM5 := hM4.stays hT5.2
    have hM3 : Blk 30 w3 w.heap.size [.slice sa5 n5 sc5, .slice wa5 S1.ws.length wc5, .bool S1.fused, .int .i64 (S1.left : Int), .bool S1.off] := by rw [hw3]; exact put5_same hM5 _ _ _ _ _
    have hR3 := ((hR2.stays hb4).stays hT5.2).but hbut3 (by omega)
    have z4 := hb4.size
    have z5 := hT5.2.size
    have hX4 : Below B w w4 := hX2.trans (hb4.mono (by have := hX2.size; omega))
    have hX5 : Below B w w5 := hX4.trans (hT5.2.mono (by have := hX4.size; omega))
    generalize hG5 : (fun k => (G k ∨ w4.heap.size ≤ k) ∧ k < w5.heap.size) = G5 at hP5
    have HF : Hid (∀ k, w.heap.size ≤ k → k < w1.heap.size → ¬ F1 k ∧ ¬ G5 k) := fun k h1 h2 => by
      obtain ⟨hf, hg⟩ := HH.out k h1
      refine ⟨fun h => ?_, fun h => ?_⟩
      · rcases hF1 k h with h | h
        · exact hf h
        · omega
      · rw [← hG5] at h
        rcases h.1 with h | h
        · exact hg h
        · omega
    have zw1 : w.heap.size + 5 ≤ w1.heap.size := by rw [← hsW]; exact hb1.size
    have hP3 := hP5.but hbut3 (HF.out _ (Nat.le_refl _) (by omega)).1 (HF.out _ (Nat.le_refl _) (by omega)).2
    obtain ⟨N, hN⟩ : ∃ N, N = Y.length := ⟨_, rfl⟩
    have hNl : N ≤ 9223372036854775807 := by
      have h1 := hOB.2.1.cap
      have h2 := hOB.2.1.capm
      unfold maxLen at h2
      omega
    obtain ⟨g, hg⟩ : ∃ g, 0 < N → ao = some ⟨g, 0, none⟩ ∧ w.heap.size + 5 ≤ g ∧ g < w1.heap.size ∧ ∃ ys, Blk 5 w3 g ys ∧ N ≤ ys.length := by
      by_cases h0 : 0 < N
      · obtain ⟨g, ys, h1, h2, h3, h4⟩ := Out.blk hO1 (by omega)
        have h3l := h3.lt
        refine ⟨g, fun _ => ⟨h1, by omega, h3l, ys, ?_, by omega⟩⟩
        have k2 := box_keep hT.2 h3 (HH.out g (by omega)).1
        exact ((k2.stays hb4).stays hT5.2).but hbut3 (by omega)
      · exact ⟨0, fun h => absurd h h0⟩
    have hX3 : Fr F w w3 := ((((Fr.disk (Frm.of_below (hbW.trans (hb1.mono hbW.size))) hT.2).grow hb4).grow hT5.2).but hbut3 (Nat.le_refl _))
    have hFx : ∀ k, F1 k → F k ∨ w.heap.size ≤ k := fun k h => by
      rcases hF1 k h with h | h
      · exact .inl h
      · exact .inr (by omega)
    have hGx : ∀ k, G5 k → G k ∨ w.heap.size ≤ k := fun k h => by
      rw [← hG5] at h
      rcases h.1 with h | h
      · exact .inl h
      · exact .inr (by omega)
    have HX : Hid ((∀ k, F1 k → F k ∨ w.heap.size ≤ k) ∧ ∀ k, G5 k → G k ∨ w.heap.size ≤ k) := ⟨hFx, hGx⟩
    clear hFx hGx
    have HG : Hid (0 < N → ao = some ⟨g, 0, none⟩ ∧ w.heap.size + 5 ≤ g ∧ g < w1.heap.size) := fun h => ⟨(hg h).1, (hg h).2.1, (hg h).2.2.1⟩
    have HY : Hid (0 < N → ∃ ys, Blk 5 w3 g ys ∧ N ≤ ys.length) := fun h => (hg h).2.2.2
    rw [← hN]
    have HN : Hid (N = Y.length) := hN
    have HWZ : Hid (w.heap.size + 5 ≤ w1.heap.size) := zw1
    clear hg hN hw3 hbut3 hP4 hP5 hM4 hM5 hb4 hT5 hP2 hP2d hM2 hM2d hA2 hA2d hR2 m0 m1 m2 m3 m4 a0 a1 a2 a3 a4 hcs HPUT HSEC hO1 hOB hT hb2 hF1 hG5 z1 z2 z4 z5 zw1 hX4 hX5 hX2 hX1 hP1 hb1 HWE hbW hbWB
    simp only [Act.put, List.setIfInBounds_toArray, List.set_cons_zero, List.set_cons_succ]
    go_wp2
    go_loopw [13] (fun x wr => ∃ k : Nat, k ≤ N ∧ x = .int .i64 k ∧ Hid (0 < N → ∃ ys, Blk 5 wr g ys ∧ N ≤ ys.length) ∧ Pair B wr F1 G5 p S1 [.slice sa5 n5 sc5, .slice wa5 S1.ws.length wc5, .bool S1.fused, .int .i64 (S1.left : Int), .bool S1.off] S1 ∧ Blk 30 wr w.heap.size [.slice sa5 n5 sc5, .slice wa5 S1.ws.length wc5, .bool S1.fused, .int .i64 (S1.left : Int), .bool S1.off] ∧ Blk 30 wr (w.heap.size + 2) [.slice none 0 0, .slice none 0 0, .bool false, .int .i64 0, .bool false] ∧ Fr F w wr) (fun x _ => N - (intOf x).toNat)
    case atStart => exact ⟨0, by omega, rfl, HY, hP3, hM3, hR3, hX3⟩
    case round =>
      rename_i hrel
      obtain ⟨k, hk, rfl, HYr, hPr, hMr, hRr, hbr⟩ := hrel
      clear HY hP3 hM3 hR3 hX3
      have hsz : w.heap.size ≤ wr.heap.size := Frm.size hbr
      by_cases hlt : k < N
      · obtain ⟨hax, hgl, hgu⟩ := HG.out (by omega)
        obtain ⟨ys, hYb, hYl⟩ := HYr.out (by omega)
        have hix : ∀ u : World, (Instr.indexAt 35 (.slice ao N co) (.int .i64 k)).run Try.prog u = .ok (.pointer (some ⟨g, k, none⟩)) u := fun u => by
          have := index_run (P := Try.prog) 35 5 Try.underlying35 (by kernel_rfl) (by kernel_rfl) g 0 N co .i64 k hlt u
          rw [Nat.zero_add] at this
          rw [hax]; exact this
        have HFG : Hid (¬ F1 g ∧ ¬ G5 g) := HF.out g (by omega) hgu
        clear hax
        go_wp2_with (first
          | (refine wpList_store_int (by rfl) (.tmp 60) (.const (.int .u8 7)) 5 (by rfl) _ k (by rfl) .u8 7 (by rfl) size_u8 hYb (by omega) ?_
             intro w6 hY6 hbut6 hs6))
        have hP6 := hPr.but hbut6 HFG.out.1 HFG.out.2
        have hM6 := hMr.but hbut6 (by omega)
        have hR6 := hRr.but hbut6 (by omega)
        have hb6 : Fr F w w6 := hbr.but hbut6 (by omega)
        have HY6 : Hid (0 < N → ∃ ys, Blk 5 w6 g ys ∧ N ≤ ys.length) := fun _ => ⟨_, hY6, by simpa using hYl⟩
        clear hY6 hYb hbut6 HYr hPr hMr hRr hbr
        go_roundw
        case rel => exact ⟨k + 1, by omega, by go_num, HY6, hP6, hM6, hR6, hb6⟩
        case measure => simp [intOf]; omega
      · clear HYr HG
        go_wp2
        have HWT : Hid (∀ u, Below wr.heap.size wr u → Calls Try.prog 26 #[.pointer (some ⟨p, 0, none⟩)] u fun e w' => e = .returned (.int .i64 (S1.ws.length : Int)) ∧ Below u.heap.size u w') := fun u hu => (dk_waits (hPr.stays hu).dk).mono fun e w' ⟨h1, h2⟩ => ⟨h1, by rw [h2]; exact Below.refl _ _⟩
        have HMC : Hid (∀ u, Below wr.heap.size wr u → u.cell? ⟨w.heap.size, 1, none⟩ = some (.slice wa5 S1.ws.length wc5)) := fun u hu => (box_cells (hMr.stays hu)).2.1
        refine Up.wp_region_up (Up.tell [(12, isV (.int .i64 (S1.ws.length : Int)))]) (by kernel_rfl) (by kernel_rfl) (Up.tell_steady _ (by
          intro p hp
          simp only [List.mem_cons, List.not_mem_nil, or_false] at hp
          rcases hp with rfl
          exact isV_steady _)) ?_
        repeat (first
          | (apply Up.wpUp_pure
             case hw => rfl
             case hψ => rfl
             case hv => (intro w1 hp; clear hp; go_simp; try (with_reducible rfl))
             simp only [Act.put, List.setIfInBounds_toArray, List.set_cons_zero, List.set_cons_succ]))
        refine Up.wpUp_call _ 26 #[.pointer (some ⟨p, 0, none⟩)] (by rfl) (by rfl) (fun w1 => by go_simp) (fun w1 hp => calls_isV (HWT.out w1 hp.1)) ?_
        rintro v ⟨u, _, hf⟩
        obtain rfl := hf 12 v _ rfl rfl
        clear hf
        simp only [Act.put, List.setIfInBounds_toArray, List.set_cons_zero, List.set_cons_succ]
        repeat (first
          | (apply Up.wpUp_pure
             case hw => rfl
             case hψ => rfl
             case hv => (intro w1 hp; have hq1 := HMC.out w1 hp.1; clear hp; go_simp; try (with_reducible rfl))
             simp only [Act.put, List.setIfInBounds_toArray, List.set_cons_zero, List.set_cons_succ]))
        refine Up.wpUp_end ?_
        intro w7 hb7 _
        have hP7 := hPr.stays hb7
        have hM7 := hMr.stays hb7
        have hR7 := hRr.stays hb7
        have hX7 : Fr F w w7 := hbr.grow hb7
        clear hPr hMr hRr HWT HMC hb7 hbr hsz
        go_wp2
        go_loopw [15] (fun x wr => x = .int .i64 0 ∧ Pair B wr F1 G5 p S1 [.slice sa5 n5 sc5, .slice wa5 S1.ws.length wc5, .bool S1.fused, .int .i64 (S1.left : Int), .bool S1.off] S1 ∧ Blk 30 wr w.heap.size [.slice sa5 n5 sc5, .slice wa5 S1.ws.length wc5, .bool S1.fused, .int .i64 (S1.left : Int), .bool S1.off] ∧ Blk 30 wr (w.heap.size + 2) [.slice none 0 0, .slice none 0 0, .bool false, .int .i64 0, .bool false] ∧ Fr F w wr) (fun _ _ => 0)
        case atStart => exact ⟨rfl, hP7, hM7, hR7, hX7⟩
        case round =>
          rename_i hrel
          obtain ⟨rfl, hP8, hM8, hR8, hX8⟩ := hrel
          clear hP7 hM7 hR7 hX7
          obtain ⟨m0, m1, m2, m3, m4⟩ := box_cells hM8
          obtain ⟨y0, y1, y2, y3, y4⟩ := box_cells hR8
          have fy := hR8.free
          have HF2 : Hid (¬ F1 (w.heap.size + 2) ∧ ¬ G5 (w.heap.size + 2)) := HF.out _ (by omega) (by have := HWZ.out; omega)
          have hz8 := Frm.size hX8
          go_wp2
          refine bodyPost_ret (results_blk_tmp rfl _ _ _ rfl rAgg rSize (put5_same hR8 (.slice sa5 n5 sc5) (.slice wa5 S1.ws.length wc5) (.bool S1.fused) (.int .i64 (S1.left : Int)) (.bool S1.off)) rfl) rfl ?_
          refine ⟨[.slice sa5 n5 sc5, .slice wa5 S1.ws.length wc5, .bool S1.fused, .int .i64 (S1.left : Int), .bool S1.off], rfl, ⟨F1, G5, ?_, HX.out.1, HX.out.2⟩, ?_⟩
          · rw [← HS1.out.1]; exact hP8.but (put5_but _ _ _ _ _ _ _) HF2.out.1 HF2.out.2
          · exact hX8.but (put5_but _ _ _ _ _ _ _) (by omega)
end Go.Proofs.Ytjdidfocelagbaa
