/-
  The law ShaPieces: its walk.
-/
import Derived.Test.YtekndbdcidlfpaaDoorAlive
import Derived.Test.YtekndbdcidlfpaaDoorArrEq
namespace Go.Proofs.YtekndbdcidlfpaaDoor
set_option linter.unusedSimpArgs false
set_option linter.unusedVariables false
open Go.RowKit

theorem owns_but {w w' : World} {base g : Nat} {e : TypeId} {v : Value} {n : Nat} {xs : List Value} (h : w.ownsRow base e 1 v n xs) (hb : But g w w') (hg : g < base) : w'.ownsRow base e 1 v n xs := by
  refine ⟨h.1, ?_⟩
  rcases h.2 with h2 | ⟨g', cap, cur, h1, h2, h3, h4⟩
  · exact .inl h2
  · have hlt : g' < w.heap.size := (Array.getElem?_eq_some_iff.1 h3).1
    exact .inr ⟨g', cap, cur, h1, h2, (hb.block g' (by omega) hlt).trans h3, h4⟩

theorem owns_stays {w w' : World} {base : Nat} {e : TypeId} {v : Value} {n : Nat} {xs : List Value} (h : w.ownsRow base e 1 v n xs) (hb : Below w.heap.size w w') : w'.ownsRow base e 1 v n xs := by
  refine ⟨h.1, ?_⟩
  rcases h.2 with h2 | ⟨g', cap, cur, h1, h2, h3, h4⟩
  · exact .inl h2
  · have hlt : g' < w.heap.size := (Array.getElem?_eq_some_iff.1 h3).1
    exact .inr ⟨g', cap, cur, h1, h2, (hb.block g' hlt).trans h3, h4⟩

theorem HashAt.lt {w : World} {b : Nat} {xs : List Int} (h : HashAt w b xs) : b < w.heap.size := by
  obtain ⟨v, tail, hb, _⟩ := h
  exact hb.lt
theorem HashAt.stays {w w' : World} {b : Nat} {xs : List Int} (h : HashAt w b xs) (hb : Below w.heap.size w w') : HashAt w' b xs := by
  obtain ⟨v, tail, h1, h2⟩ := h
  exact ⟨v, tail, h1.stays hb, h2⟩
theorem HashAt.below {w w' : World} {b B : Nat} {xs : List Int} (h : HashAt w b xs) (hb : Below B w w') (hB : b < B) : HashAt w' b xs := by
  obtain ⟨v, tail, h1, h2⟩ := h
  refine ⟨v, tail, ?_, h2⟩
  unfold Blk at *
  rw [hb.block b hB]; exact h1

theorem Parts.cell {w wr : World} {pa : Option Addr} {ps : List Part} (hP : Parts w pa ps) (hbel : Below w.heap.size w wr) {k : Nat} {p : Part} (hp : ps[k]? = some p) {P : Program} {t e : TypeId} (ht : P.underlying t = some (.slice e)) (hs : (P.info? e).map (·.size) = some 1) (he : P.elem t = e) (pc : Nat) :
    ∃ b off, b < w.heap.size ∧ wr.cell? ⟨b, off + k, none⟩ = some (.slice p.a p.xs.length p.c) ∧ ∀ (w : World) (K : IntKind), (Instr.indexAt t (.slice pa ps.length pc) (.int K (k : Int))).run P w = .ok (.pointer (some ⟨b, off + k, none⟩)) w := by
  have hpm : p ∈ ps := List.mem_of_getElem? hp
  obtain ⟨b, off, hpa, hc⟩ := hP.lay.resolve_left (fun h => by rw [h] at hpm; cases hpm)
  have h1 := hc k p hp
  have hlb : b < w.heap.size := by
    rcases Nat.lt_or_ge b w.heap.size with h2 | h2
    · exact h2
    · simp [World.cell?, Array.getElem?_eq_none h2] at h1
  refine ⟨b, off, hlb, by rw [hbel.cell hlb]; exact h1, fun w K => ?_⟩
  rw [hpa]
  exact index_run t e ht hs he b off ps.length pc K k ((List.getElem?_eq_some_iff.1 hp).1) w

set_option maxRecDepth 100000 in
set_option maxHeartbeats 4000000 in
theorem pieces_walk (pa : Option Addr) (pc : Nat) (ps : List Part) (w : World) (hP : Parts w pa ps) (hpn : ps.length ≤ 9223372036854775807) (hV : Vars w) :
    Calls Tryd.prog 4 #[.slice pa ps.length pc] w fun e w' => e = .returned (.bool true) ∧ Below w.heap.size w w' := by
  obtain ⟨i0, hi, hz0, hz1, hz2⟩ : ∃ i, Tryd.prog.info? 5 = some i ∧ i.zero = some (.int .u8 0) ∧ i.size = 1 ∧ i.bytes = 1 := ⟨_, rfl, rfl, rfl, rfl⟩
  obtain ⟨N, hN⟩ : ∃ N, N = ps.length := ⟨_, rfl⟩
  have HN : Hid (N = ps.length) := hN
  have hN2 : N ≤ 9223372036854775807 := by rw [hN]; exact hpn
  have hsz := hV.size
  rw [← hN]
  clear hN hpn
  go_enter Tryd.func4, Tryd.ntmps4
  go_wp2_with (go_at_call 14; go_must (refine (new_run _).mono ?_); rintro e w1 ⟨rfl, hH1, hb1, hs1⟩)
  have hbel1 : Below w.heap.size w w1 := hb1
  obtain ⟨wn, hwn⟩ : ∃ wn, wn = w1.alloc (.cells #[] 5) := ⟨_, rfl⟩
  have hown0 : wn.ownsRow (w.heap.size + 1) 5 1 (.slice (some ⟨w1.heap.size, 0, none⟩) 0 0) 0 [] := hwn ▸ World.ownsRow_made w1 #[] 0 (by omega) (by decide) rfl
  have hbeln : Below w.heap.size w wn := hwn ▸ hbel1.alloc (by omega) _
  have hHn : HashAt wn w.heap.size (joined (ps.take 0)) := by
    have h := hH1.stays (hwn ▸ (Below.refl w1.heap.size w1).alloc (Nat.le_refl _) (.cells #[] 5) : Below w1.heap.size w1 wn)
    simpa [joined] using h
  rw [hs1] at hown0
  rw [← hwn]
  clear hwn hH1 hb1 hs1 hbel1
  go_loopw [4, 5] (fun v i wr => ∃ k : Nat, k ≤ N ∧ k ≤ 12 ∧ i = .int .i64 k ∧ Below w.heap.size w wr ∧ HashAt wr w.heap.size (joined (ps.take k)) ∧ (joined (ps.take k)).length ≤ 400 * k ∧ (∀ x ∈ joined (ps.take k), 0 ≤ x ∧ x ≤ 255) ∧
      wr.ownsRow (w.heap.size + 1) 5 1 v (joined (ps.take k)).length ((joined (ps.take k)).map (Value.int .u8))) (fun _ i _ => 12 - (intOf i).toNat)
  case atStart => exact ⟨0, by omega, by omega, rfl, hbeln, hHn, by simp [joined], by simp [joined], by simpa [joined] using hown0⟩
  case round =>
    clear hbeln hHn hown0
    rename_i hrel
    obtain ⟨k, hk, hk12, rfl, hbel, hH, hJl, hJr, hown⟩ := hrel
    have hVr : Vars wr := hV.stays hbel
    have hsr := hbel.size
    have hHl := hH.lt
    obtain ⟨J, hJ⟩ : ∃ J, J = joined (ps.take k) := ⟨_, rfl⟩
    rw [← hJ] at hH hJl hJr hown
    obtain ⟨a0, c0, rfl, hB0⟩ := Bs.of_owns hown hJr
    by_cases hlt : k < N ∧ k < 12
    · obtain ⟨p, hp⟩ : ∃ p, ps[k]? = some p := ⟨_, List.getElem?_eq_getElem (by rw [← HN.out]; exact hlt.1)⟩
      have hBp := hP.bytes p (List.mem_of_getElem? hp)
      obtain ⟨b, off, hlb, hcell, hidx0⟩ := hP.cell hbel hp (P := Tryd.prog) Tryd.underlying28 (by kernel_rfl) (by kernel_rfl) pc
      rw [← HN.out] at hidx0
      have hidx := fun w => hidx0 w .i64
      clear hidx0
      have l1 : (k : Int) < (N : Int) := by omega
      have l2 : (k : Int) < 12 := by omega
      obtain ⟨M, hM⟩ : ∃ M, M = p.xs.length := ⟨_, rfl⟩
      rw [← hM] at hcell
      by_cases h400 : 400 < M
      · have l3 : (400 : Int) < (M : Int) := by omega
        have hal := alive_run wr hVr
        clear hM hlt
        go_wp2_with (go_at_call 9; go_must (refine hal.mono ?_); rintro e w2 ⟨rfl, hb2⟩)
        go_ret
        exact ⟨rfl, hbel.trans (hb2.mono hsr)⟩
      · have l3 : ¬ (400 : Int) < (M : Int) := by omega
        have HJ : Hid (joined (ps.take (k + 1)) = J ++ p.xs) := by rw [hJ]; exact joined_take ps k p hp
        have hw := write_run w.heap.size J p.a p.c p.xs wr hH (hBp.stays hbel) (fun h0 x hx => by have := hBp.blk_lt h0 x hx; omega) (by omega) hVr.steps hVr.firsts (by omega) (by omega)
        rw [← hM] at hw
        have hpr := hBp.rng
        have HM : Hid (M = p.xs.length) := hM
        obtain ⟨J2, hJ2⟩ : ∃ J2, J2 = J ++ p.xs := ⟨_, rfl⟩
        have HJ2 : Hid (J2 = J ++ p.xs) := hJ2
        have hr3 : ∀ x ∈ J2, 0 ≤ x ∧ x ≤ 255 := fun x hx => by rw [hJ2] at hx; exact (List.mem_append.1 hx).elim (hJr x) (hpr x)
        have hl2 : J2.length ≤ 400 * (k + 1) := by rw [hJ2, List.length_append]; omega
        have hlen3 : J2.length < 1000000000000000000 := by omega
        have heq := equal_same (P := Tryd.prog) Tryd.underlying23 Tryd.underlying5 (by kernel_rfl) (shaOf J2) (shaOf_length _)
        rw [← hJ2] at hw
        clear hM hJ hlt hJ2
        go_wp2_with (first
          | (go_at_call 15; go_must (refine hw.mono ?_); rintro e w2 ⟨rfl, hst2, hbut2⟩
             have hcell2 : w2.cell? ⟨b, off + k, none⟩ = some (.slice p.a M p.c) := by rw [World.cell?_of_block (w := wr) (hbut2.block b (by omega) (by omega))]; exact hcell
             have hown2 := owns_but hown hbut2 (by omega)
             have hV2 := hVr.but hbut2 (by omega) (by omega)
             have hs2 := hbut2.size
             have hB2 := (hBp.stays hbel).but hbut2 (fun h0 x hx => by have := hBp.blk_lt h0 x hx; omega))
          | (at_builtin; go_must (refine wpList_append_bytes (w0 := w2) (by rfl) _ _ 22 (by rfl) (w.heap.size + 1) 5 i0 Tryd.underlying22 hi hz0 hz1 hz2 _ J (by rfl) hown2 p.a M p.c p.xs (by rfl) HM.out hB2 (by have := HM.out; omega) (by omega) (Below.refl _ _) ?_)
             intro v3 w3 hown3 hb3
             rw [← HJ2.out] at hown3
             obtain ⟨a3, c3, rfl, hB3⟩ := Bs.of_owns hown3 hr3
             have hH3 := hst2.at.below hb3 (by omega)
             have hV3 := hV2.below hb3 (by omega)
             have hs3 := hsum_run w.heap.size J2 w3 hH3 hlen3 hV3)
          | (go_at_call 16; go_must (refine hs3.mono ?_); rintro e w4 ⟨rfl, hb4⟩
             have hs4 := sum_run a3 c3 J2 w4 (hB3.stays hb4) (hV3.stays hb4) hlen3)
          | (go_at_call 10; go_must (refine hs4.mono ?_); rintro e w5 ⟨rfl, hb5⟩))
        go_roundw
        case rel =>
          have hs3' := hb3.size
          have hs4' := hb4.size
          have hbel5 : Below w.heap.size w w5 := (((hbel.trans (hbut2.below (Nat.le_refl _) hsr)).trans (hb3.mono (by omega))).trans (hb4.mono (by omega))).trans (hb5.mono (by omega))
          refine ⟨k + 1, by omega, by omega, by go_num, hbel5, ?_, ?_, ?_, ?_⟩
          · rw [HJ.out, ← HJ2.out]; exact (hH3.stays hb4).stays hb5
          · rw [HJ.out, ← HJ2.out]; exact hl2
          · rw [HJ.out, ← HJ2.out]; exact hr3
          · rw [HJ.out, ← HJ2.out]; exact owns_stays (owns_stays hown3 hb4) hb5
        case measure => simp [intOf]; omega
    · have hal := alive_run wr hVr
      by_cases hN12 : 12 < N
      · have l1 : (12 : Int) < (N : Int) := by omega
        have l2 : (k : Int) < (N : Int) := by omega
        have l3 : ¬ (k : Int) < 12 := by omega
        clear hlt
        go_wp2_with (go_at_call 9; go_must (refine hal.mono ?_); rintro e w2 ⟨rfl, hb2⟩)
        go_ret
        exact ⟨rfl, hbel.trans (hb2.mono hsr)⟩
      · have l1 : ¬ (12 : Int) < (N : Int) := by omega
        have l2 : ¬ (k : Int) < (N : Int) := by omega
        have hJa : J = joined ps := by rw [hJ, List.take_of_length_le (by rw [← HN.out]; omega)]
        have hlenJ : J.length < 1000000000000000000 := by omega
        have heq := equal_same (P := Tryd.prog) Tryd.underlying23 Tryd.underlying5 (by kernel_rfl) (shaOf J) (shaOf_length _)
        have hall : ∀ u, Below w.heap.size w u → Calls Tryd.prog 17 #[.slice pa N pc] u fun e w' => e = .returned (.agg ((shaOf J).map (Value.int .u8)).toArray) ∧ Below u.heap.size u w' := fun u hu => by
          have h := all_run pa pc ps u ⟨?_, fun p hp => (hP.bytes p hp).stays hu⟩ (hV.stays hu) (by rw [← hJa]; exact hlenJ) (by rw [← HN.out]; exact hN2)
          · rw [← HN.out, ← hJa] at h
            exact h
          · rcases hP.lay with h0 | ⟨b, off, h1, h2⟩
            · exact .inl h0
            · refine .inr ⟨b, off, h1, fun i p hp => ?_⟩
              have h3 := h2 i p hp
              have hlb : b < w.heap.size := by
                rcases Nat.lt_or_ge b w.heap.size with h4 | h4
                · exact h4
                · simp [World.cell?, Array.getElem?_eq_none h4] at h3
              rw [hu.cell hlb]; exact h3
        clear hlt hJa hJ
        go_wp2_with (first
          | (go_at_call 9; go_must (refine hal.mono ?_); rintro e w2 ⟨rfl, hb2⟩
             have hs2 := hsum_run w.heap.size J w2 (hH.stays hb2) hlenJ (hVr.stays hb2))
          | (go_at_call 16; go_must (refine hs2.mono ?_); rintro e w3 ⟨rfl, hb3⟩
             have hB3 := (hB0.stays hb2).stays hb3
             have hV3 := (hVr.stays hb2).stays hb3
             have hs3 := sum_run a0 c0 J w3 hB3 hV3 hlenJ)
          | (go_at_call 17; go_must (refine (hall w4 hbel4).mono ?_); rintro e w5 ⟨rfl, hb5⟩
             have hs5 := sum_run a0 c0 J w5 ((hB3.stays hb4).stays hb5) ((hV3.stays hb4).stays hb5) hlenJ)
          | (go_at_call 10
             first
               | (refine hs3.mono ?_; rintro e w4 ⟨rfl, hb4⟩
                  have hbel4 : Below w.heap.size w w4 := ((hbel.trans (hb2.mono hsr)).trans (hb3.mono (Nat.le_trans hsr hb2.size))).trans (hb4.mono (Nat.le_trans (Nat.le_trans hsr hb2.size) hb3.size)))
               | (refine hs5.mono ?_; rintro e w6 ⟨rfl, hb6⟩)))
        go_ret
        exact ⟨rfl, (hbel4.trans (hb5.mono hbel4.size)).trans (hb6.mono (Nat.le_trans hbel4.size hb5.size))⟩
end Go.Proofs.YtekndbdcidlfpaaDoor
