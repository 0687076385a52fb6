/-
  The walk of the law SpaceTaken.
-/
import Derived.Test.YtfmfjaokpnadaaaSpAlive
import Derived.Test.YtfmfjaokpnadaaaSpOpens
import Derived.Test.YtfmfjaokpnadaaaSpPure2
namespace Go.Proofs.Ytfmfjaokpnadaaa
set_option linter.unusedSimpArgs false
set_option linter.unusedVariables false
open Go.RowKit

set_option maxRecDepth 100000 in
theorem taken_bad (n : Int) (hn : ¬ (16 ≤ n ∧ n ≤ 512)) (v : Value) (w : World) : Calls Try.prog 6 #[.int .i64 n, v] w fun e w' => e = .returned (.bool true) ∧ Below w.heap.size w w' := by
  have HN : Hid (∀ u, Calls Try.prog 8 #[.int .i64 n] u fun e w' => e = .returned (.tuple #[.pointer none, .int .i64 1]) ∧ w' = u) := fun u => new_bad n hn u
  clear hn
  go_enter Try.func6, Try.ntmps6
  go_wp2_with (first
    | (go_at_call 8; refine (HN.out _).mono ?_; rintro e w1 ⟨rfl, rfl⟩)
    | (go_at_call 25; refine (alive_run _).mono ?_; rintro e w3 ⟨rfl, hb3⟩))
  go_ret
  exact ⟨rfl, hb3⟩

set_option maxRecDepth 100000 in
set_option maxHeartbeats 4000000 in
theorem taken_walk (n : Nat) (h16 : 16 ≤ n) (h512 : n ≤ 512) (a : Option Addr) (c : Nat) (acts : List ActV) (w : World) (hS : Acts w a acts) (hlen : acts.length ≤ 9223372036854775807) :
    Calls Try.prog 6 #[.int .i64 (n : Int), .slice a acts.length c] w fun e w' => e = .returned (.bool true) ∧ Below w.heap.size w w' := by
  obtain ⟨g, hg⟩ : ∃ g, g = w.heap.size := ⟨_, rfl⟩
  have HNEW : Hid (Calls Try.prog 8 #[.int .i64 (n : Int)] w fun e w' => e = .returned (.tuple #[.pointer (some ⟨g, 0, none⟩), .int .i64 0]) ∧ Mp w' g (lab n 4) ∧ Below g w w') := by rw [hg]; exact new_run n h16 h512 w
  have HA : Hid (∀ u, Below g w u → Acts u a acts) := fun u hu => hS.stays (by rw [← hg]; exact hu)
  have HL0 : Hid (Lab (lab n 4) ∧ (lab n 4).length = n) := ⟨Lab.lab (by omega), lab_len _ _⟩
  have HG : Hid (g = w.heap.size) := hg
  obtain ⟨sl, hsl⟩ : ∃ sl, sl = acts.length := ⟨_, rfl⟩
  have HSL : Hid (sl = acts.length) := hsl
  rw [← hsl] at hlen ⊢
  rw [← hg]
  clear hg hsl hS
  go_enter Try.func6, Try.ntmps6
  go_wp2_with (first
    | (go_at_call 8; refine HNEW.out.mono ?_; rintro e w1 ⟨rfl, hP1, hb1⟩))
  go_loopw [7, 8, 9, 10, 11, 12, 13, 14] (fun x _ _ _ _ _ _ _ wr => ∃ (i : Nat) (l : List Bool), x = .int .i64 i ∧ i ≤ 60 ∧ i ≤ sl ∧ Mp wr g l ∧ Lab l ∧ l.length = n ∧ Below g w wr) (fun x _ _ _ _ _ _ _ _ => 60 - (intOf x).toNat)
  case atStart => exact ⟨0, lab n 4, rfl, by omega, by omega, hP1, HL0.out.1, HL0.out.2, hb1⟩
  case round =>
    rename_i hrel
    clear hP1 hb1
    obtain ⟨i, l, rfl, hi60, hil, hP, hLab, hln, hbr⟩ := hrel
    by_cases hstop : i < sl ∧ i < 60
    · obtain ⟨hlt, hlt60⟩ := hstop
      obtain ⟨sb, so, ha, _, _⟩ := (HA.out wr hbr).at (i := i) (by rw [← HSL.out]; exact hlt)
      obtain ⟨kd, num, HY⟩ : ∃ kd num : Int, Hid (∀ u, Below g w u → u.cell? ⟨sb, so + i * 4, none⟩ = some (.int .i64 kd) ∧ u.cell? ⟨sb, so + i * 4 + 1, none⟩ = some (.int .i64 num)) := by
        refine ⟨(acts.getD i default).kind, (acts.getD i default).num, fun u hu => ?_⟩
        obtain ⟨b', o', h1, h2, _⟩ := (HA.out u hu).at (i := i) (by rw [← HSL.out]; exact hlt)
        rw [ha] at h1
        simp only [Option.some.injEq, Addr.mk.injEq] at h1
        obtain ⟨rfl, rfl, _⟩ := h1
        rw [show so + 4 * i = so + i * 4 by omega] at h2
        obtain ⟨y0, y1, _, _⟩ := act_cells h2
        exact ⟨y0, y1⟩
      have hix : ∀ u : World, (Instr.indexAt 22 (.slice a sl c) (.int .i64 (i : Int))).run Try.prog u = .ok (.pointer (some ⟨sb, so + i * 4, none⟩)) u := fun u => by
        rw [ha]; exact index_act sb so sl c i hlt u
      have hgr : g < wr.heap.size := hP.blk.lt
      have hgw : w.heap.size = g := HG.out.symm
      have HGW : Hid (w.heap.size = g) := hgw
      clear ha hgw
      obtain ⟨F, hF⟩ : ∃ F, F = freeN l := ⟨_, rfl⟩
      have HF : Hid (∀ u, Mp u g l → Calls Try.prog 21 #[.pointer (some ⟨g, 0, none⟩)] u fun e w' => e = .returned (.int .i64 (F : Int)) ∧ w' = u) := fun u hu => by rw [hF]; exact free_run u hu
      have hFb : F ≤ 512 := by rw [hF]; unfold freeN; exact Nat.le_trans List.count_le_length (by omega)
      have HFE : Hid (F = freeN l) := hF
      clear hF
      have HCP : Hid (Calls Try.prog 10 #[.pointer (some ⟨g, 0, none⟩)] wr fun e w' => e = .returned (.pointer (some ⟨wr.heap.size, 0, none⟩)) ∧ Mp w' wr.heap.size l ∧ Below wr.heap.size wr w') := copy_run wr hP
      by_cases her : (takeL l num).2.2 = 0
      · obtain ⟨hTk, hol⟩ := takeL_ok l num her
        have HT0 := fun u hu => take_run (g := g) (l := l) num u hu
        obtain ⟨l', hl'⟩ : ∃ l', l' = (takeL l num).1 := ⟨_, rfl⟩
        obtain ⟨o, ho⟩ : ∃ o, o = (takeL l num).2.1 := ⟨_, rfl⟩
        rw [← hl', ← ho] at hTk HT0
        rw [← ho] at hol
        rw [her] at HT0
        obtain ⟨ol, hoe⟩ : ∃ ol, ol = o.length := ⟨_, rfl⟩
        rw [← hoe] at hol
        obtain rfl : num = (ol : Int) := hol.symm
        clear hl' ho her hol
        have HT : Hid (∀ u, Mp u g l → Calls Try.prog 12 #[.pointer (some ⟨g, 0, none⟩), .int .i64 (ol : Int)] u fun e w' => ∃ (av : Option Addr) (cv : Nat), e = .returned (.tuple #[.slice av ol cv, .int .i64 0]) ∧ Nums u.heap.size w' (.slice av ol cv) o ∧ Mp w' g l' ∧ But g u w') := fun u hu => by
          refine (HT0 u hu).mono ?_
          rintro e w' ⟨v, he, hN, hP', hb'⟩
          obtain ⟨av, cv, rfl⟩ := hN.form
          rw [← hoe] at he hN
          exact ⟨av, cv, he, hN, hP', hb'⟩
        have HOE : Hid (ol = o.length) := hoe
        have hGv := hTk.gv hLab (by omega)
        rw [hln] at hGv
        obtain ⟨F', hF'⟩ : ∃ F', F' = freeN l' := ⟨_, rfl⟩
        have HF2 : Hid (∀ u, Mp u g l' → Calls Try.prog 21 #[.pointer (some ⟨g, 0, none⟩)] u fun e w' => e = .returned (.int .i64 (F' : Int)) ∧ w' = u) := fun u hu => by rw [hF']; exact free_run u hu
        have hFI : (F : Int) - (ol : Int) = (F' : Int) := by have := hTk.fr; rw [← hF', ← hoe, ← HFE.out] at this; omega
        have HMEM : Hid (∀ k, k < ol → o.getD k 0 < n ∧ l.getD (o.getD k 0) false = false ∧ l'.getD (o.getD k 0) false = true ∧ 4 ≤ o.getD k 0 ∧ (0 < k → o.getD (k - 1) 0 < o.getD k 0)) := fun k hk => by
          obtain ⟨h1, h2, h3⟩ := hTk.mem _ (getD_mem (show k < o.length by omega))
          obtain ⟨h4, _, _⟩ := hGv.mem k (by omega) (by omega)
          exact ⟨by omega, h2, h3, h4, fun hk0 => srt_lt hTk.srt (by omega) (by omega)⟩
        have HRO : Hid (∀ x ∈ o, x < 4294967296) := fun x hx => by have := (hTk.mem x hx).1; omega
        have HL' : Hid (l'.length = n) := hGv.len
        have HGV : Hid (Gv n o 0 l') := hGv
        clear hoe HT0 hF' hTk hGv
        go_wp2_with (first
          | (go_at_call 10; refine HCP.out.mono ?_; rintro e w2 ⟨rfl, hC2, hb2⟩; have hP2 := hP.stays hb2; have hbw2 := hbr.trans (hb2.mono (by omega)); obtain ⟨y0, y1⟩ := HY.out w2 hbw2)
          | (go_at_call_of 12 (Value.int .i64 (ol : Int)); refine (HT.out _ hP2).mono ?_; rintro e w3 ⟨av, cv, rfl, hN3, hP3, hb3⟩
             have hbw3 : Below g w w3 := hbw2.trans (hb3.below (Nat.le_refl _) (by have := hb2.size; omega)); have hC3 := Mp.mk (hC2.blk.but hb3 (by omega)) hC2.lo hC2.hi; obtain ⟨y0', y1'⟩ := HY.out w3 hbw3)
          | (refine (HF.out _ hP2).mono ?_; rintro e w2 ⟨rfl, rfl⟩)
          | (refine (HF2.out _ hP3).mono ?_; rintro e w3 ⟨rfl, rfl⟩))
        obtain ⟨C, hC⟩ : ∃ C, C = wr.heap.size := ⟨_, rfl⟩
        obtain ⟨B2, hB2⟩ : ∃ B2, B2 = w2.heap.size := ⟨_, rfl⟩
        have hgB : g < B2 := by have := hb2.size; omega
        rw [← hB2] at hN3
        rw [← hC] at hC3 ⊢
        have hCg : (C = g) = False := eq_false (by omega)
        clear hB2 hC hC2 hP2 hb2 hbw2 y0 y1 y0' y1' hb3 hP hbr hgr HCP
        go_loopw [12, 13] (fun x _ wq => ∃ k : Nat, k ≤ ol ∧ x = .int .i64 k ∧ Nums B2 wq (.slice av ol cv) o ∧ Mp wq g l' ∧ Mp wq C l ∧ Below g w wq) (fun x _ _ => ol - (intOf x).toNat)
        case atStart => exact ⟨0, by omega, rfl, hN3, hP3, hC3, hbw3⟩
        case round =>
          rename_i hrel
          clear hN3 hP3 hC3 hbw3
          obtain ⟨k, hk, rfl, hN, hP, hC, hbq⟩ := hrel
          by_cases hkl : k < ol
          · obtain ⟨b3, o3, hav, HCE⟩ : ∃ b o3, av = some ⟨b, o3, none⟩ ∧ Hid (∀ j, j < ol → wr.cell? ⟨b, o3 + j, none⟩ = some (.int .u32 ((o.getD j 0 : Nat) : Int))) := by
              obtain ⟨_, hus⟩ := hN.us HRO.out
              rcases hus.lay with h0 | ⟨b, o3, h1, h2⟩
              · have := HOE.out; rw [h0] at this; simp at this; omega
              · exact ⟨b, o3, h1, fun j hj => h2 j (by have := HOE.out; omega)⟩
            have HIX : Hid (∀ j, j < ol → ∀ u : World, (Instr.indexAt 33 (.slice av ol cv) (.int .i64 (j : Int))).run Try.prog u = .ok (.pointer (some ⟨b3, o3 + j, none⟩)) u) := fun j hj u => by
              rw [hav]; exact index_run 33 32 Try.underlying33 sizes32 elem32 b3 o3 ol cv .i64 j hj u
            clear hav
            obtain ⟨m1, m2, m3, m4, m5⟩ := HMEM.out k hkl
            have hc3 := HCE.out k hkl
            obtain ⟨x, hx⟩ : ∃ x, x = o.getD k 0 := ⟨_, rfl⟩
            rw [← hx] at m1 m2 m3 m4 m5 hc3
            have hix3 := HIX.out k hkl
            have HU1 : Hid (∀ q, Calls Try.prog 19 #[.pointer (some ⟨C, 0, none⟩), .int .i64 (x : Int)] (wr.drewN q) fun e w' => e = .returned (.bool false) ∧ ∃ m, w' = (wr.drewN q).drewN m) := fun q => by
              have := used_drew x (wr.drewN q) (hC.drewN q) (by omega)
              rw [m2] at this
              exact this
            have HU2 : Hid (∀ q, Calls Try.prog 19 #[.pointer (some ⟨g, 0, none⟩), .int .i64 (x : Int)] (wr.drewN q) fun e w' => e = .returned (.bool true) ∧ ∃ m, w' = (wr.drewN q).drewN m) := fun q => by
              have := used_drew x (wr.drewN q) (hP.drewN q) (by rw [HL'.out]; exact m1)
              rw [m3] at this
              exact this
            have hd4 : decide ((x : Int) < 4) = false := decide_eq_false (by omega)
            have hd4' : decide (x < 4) = false := decide_eq_false (by omega)
            clear m2 m3 hx
            by_cases hk0 : k = 0
            · subst hk0
              have hix0 : ∀ u : World, (Instr.indexAt 33 (.slice av ol cv) (.int .i64 0)).run Try.prog u = .ok (.pointer (some ⟨b3, o3, none⟩)) u := hix3
              have hc0 : wr.cell? ⟨b3, o3, none⟩ = some (.int .u32 (x : Int)) := hc3
              clear m5 hix3 hc3
              go_wp2
              go_quiet (first
                | (go_at_call_of 19 (Value.pointer (some ⟨C, 0, none⟩)); refine Calls.quiet_of (HU1.out _))
                | (go_at_call_of 19 (Value.pointer (some ⟨g, 0, none⟩)); refine Calls.quiet_of (HU2.out _)))
              go_wp2
              go_roundw
              case rel => exact ⟨0 + 1, by omega, by go_num, hN.stays (below_drewN _ _), hP.drewN _, hC.drewN _, hbq.trans ((below_drewN _ _).mono (Nat.le_of_lt hP.blk.lt))⟩
              case measure => simp [intOf]; omega
            · have hc4 := HCE.out (k - 1) (by omega)
              obtain ⟨y, hy⟩ : ∃ y, y = o.getD (k - 1) 0 := ⟨_, rfl⟩
              rw [← hy] at m5 hc4
              have hyx := m5 (by omega)
              have hix4 : ∀ u : World, (Instr.indexAt 33 (.slice av ol cv) (.int .i64 ((k : Int) - 1))).run Try.prog u = .ok (.pointer (some ⟨b3, o3 + (k - 1), none⟩)) u := fun u => by
                have := HIX.out (k - 1) (by omega) u
                rwa [show (((k - 1 : Nat) : Int)) = (k : Int) - 1 by omega] at this
              have hwr1 : IntKind.i64.wrap ((k : Int) - 1) = (k : Int) - 1 := by simp [IntKind.wrap, IntKind.bits, IntKind.signed]; omega
              have hkp : 0 < k := by omega
              have hkd : decide ((0 : Int) < (k : Int)) = true := decide_eq_true (by omega)
              have hkd' : decide (0 < k) = true := decide_eq_true (by omega)
              have hyd : decide ((x : Int) ≤ (y : Int)) = false := decide_eq_false (by omega)
              have hyd' : decide (x ≤ y) = false := decide_eq_false (by omega)
              clear m5 hy hk0
              go_wp2
              go_quiet (first
                | (go_at_call_of 19 (Value.pointer (some ⟨C, 0, none⟩)); refine Calls.quiet_of (HU1.out _))
                | (go_at_call_of 19 (Value.pointer (some ⟨g, 0, none⟩)); refine Calls.quiet_of (HU2.out _)))
              go_wp2
              go_roundw
              case rel => exact ⟨k + 1, by omega, by go_num, hN.stays (below_drewN _ _), hP.drewN _, hC.drewN _, hbq.trans ((below_drewN _ _).mono (Nat.le_of_lt hP.blk.lt))⟩
              case measure => simp [intOf]; omega
          · clear hC
            obtain ⟨y0, y1⟩ := HY.out wr hbq
            have hGv := HGV.out
            by_cases hkd2 : kd = 2
            · subst hkd2
              have hP0 : ∃ lk, Mp wr g lk ∧ Gv n o 0 lk := ⟨l', hP, hGv⟩
              clear hP hGv y1
              go_wp2
              go_loopw [14] (fun x wq => ∃ k : Nat, k ≤ ol ∧ x = .int .i64 k ∧ Nums B2 wq (.slice av ol cv) o ∧ (∃ lk, Mp wq g lk ∧ Gv n o k lk) ∧ Below g w wq) (fun x _ => ol - (intOf x).toNat)
              case atStart => exact ⟨0, by omega, rfl, hN, hP0, hbq⟩
              case round =>
                rename_i hrel
                clear hN hP0 hbq hkl y0 hk
                obtain ⟨k, hk, rfl, hN, ⟨lk, hP, hGv⟩, hbq⟩ := hrel
                by_cases hkl : k < ol
                · have hko : k < o.length := by have := HOE.out; omega
                  have hg1 := hGv.once hko
                  have hg2 := hGv.again hko
                  have hg3 := hGv.next hko
                  obtain ⟨b3, o3, hav, hcx⟩ : ∃ b o3, av = some ⟨b, o3, none⟩ ∧ wr.cell? ⟨b, o3 + k, none⟩ = some (.int .u32 ((o.getD k 0 : Nat) : Int)) := by
                    obtain ⟨_, hus⟩ := hN.us HRO.out
                    rcases hus.lay with h0 | ⟨b, o3, h1, h2⟩
                    · rw [h0] at hko; simp at hko
                    · exact ⟨b, o3, h1, h2 k hko⟩
                  have hix3 : ∀ u : World, (Instr.indexAt 33 (.slice av ol cv) (.int .i64 (k : Int))).run Try.prog u = .ok (.pointer (some ⟨b3, o3 + k, none⟩)) u := fun u => by
                    rw [hav]; exact index_run 33 32 Try.underlying33 sizes32 elem32 b3 o3 ol cv .i64 k hkl u
                  have hxl : o.getD k 0 < 4294967296 := HRO.out _ (getD_mem hko)
                  have HAV : Hid (av = some ⟨b3, o3, none⟩) := hav
                  obtain ⟨x, hx⟩ : ∃ x, x = o.getD k 0 := ⟨_, rfl⟩
                  rw [← hx] at hg1 hg2 hg3 hcx hxl
                  have HG1 : Hid (Calls Try.prog 14 #[.pointer (some ⟨g, 0, none⟩), .int .u32 (x : Int)] wr fun e w' => e = .returned (.int .i64 0) ∧ Mp w' g (lk.set x false) ∧ But g wr w') := by
                    have := give_run x hxl wr hP
                    rw [hg1] at this
                    exact this
                  have HG2 : Hid (∀ u, Mp u g (lk.set x false) → Calls Try.prog 14 #[.pointer (some ⟨g, 0, none⟩), .int .u32 (x : Int)] u fun e w' => e = .returned (.int .i64 1) ∧ Mp w' g (lk.set x false) ∧ But g u w') := fun u hu => by
                    have := give_run x hxl u hu
                    rw [hg2] at this
                    exact this
                  have HCX : Hid (∀ u, Nums B2 u (.slice av ol cv) o → u.cell? ⟨b3, o3 + k, none⟩ = some (.int .u32 (x : Int))) := fun u hu => by
                    obtain ⟨_, hus⟩ := hu.us HRO.out
                    rcases hus.lay with h0 | ⟨b, o3', h1, h2⟩
                    · rw [h0] at hko; simp at hko
                    · rw [HAV.out] at h1
                      simp only [Option.some.injEq, Addr.mk.injEq] at h1
                      obtain ⟨rfl, rfl, _⟩ := h1
                      rw [hx]; exact h2 k hko
                  clear hx hav hg1 hg2 hGv hko
                  go_wp2_with (first
                    | (refine HG1.out.mono ?_; rintro e w4 ⟨rfl, hP4, hb4⟩; have hN4 := hN.but hb4 hgB; have hcx4 := HCX.out w4 hN4)
                    | (refine (HG2.out _ hP4).mono ?_; rintro e w5 ⟨rfl, hP5, hb5⟩; have hN5 := hN4.but hb5 hgB))
                  go_roundw
                  case rel => exact ⟨k + 1, by omega, by go_num, hN5, ⟨_, hP5, hg3⟩, (hbq.trans (hb4.below (Nat.le_refl _) (Nat.le_of_lt hP.blk.lt))).trans (hb5.below (Nat.le_refl _) (Nat.le_of_lt hP4.blk.lt))⟩
                  case measure => simp [intOf]; omega
                · have hz := hGv.len
                  have hLk := hGv.lab
                  clear hGv
                  go_wp2
                  go_roundw
                  case rel => exact ⟨i + 1, lk, by go_num, by omega, by omega, hP, hLk, hz, hbq⟩
                  case measure => simp [intOf]; omega
            · have hkb : (kd == 2) = false := beq_false_of_ne hkd2
              have hLk := hGv.lab
              have hz := hGv.len
              clear hkd2 hGv y1
              go_wp2
              go_roundw
              case rel => exact ⟨i + 1, l', by go_num, by omega, by omega, hP, hLk, hz, hbq⟩
              case measure => simp [intOf]; omega
      · obtain ⟨hl', ho'⟩ := takeL_no l num her
        have HT : Hid (∀ u, Mp u g l → Calls Try.prog 12 #[.pointer (some ⟨g, 0, none⟩), .int .i64 num] u fun e w' => ∃ (er : Nat) (av : Option Addr) (cv : Nat), e = .returned (.tuple #[.slice av 0 cv, .int .i64 (er : Int)]) ∧ er ≠ 0 ∧ Mp w' g l ∧ But g u w') := fun u hu => by
          have := take_run num u hu
          refine this.mono ?_
          rintro e w' ⟨v, he, hN, hP', hb'⟩
          rw [hl'] at hP'
          rw [ho'] at hN
          obtain ⟨av, cv, rfl⟩ := hN.form
          exact ⟨_, av, cv, he, her, hP', hb'⟩
        clear hl' ho' her
        go_wp2_with (first
          | (go_at_call 10; refine HCP.out.mono ?_; rintro e w2 ⟨rfl, hC2, hb2⟩; have hP2 := hP.stays hb2; have hbw2 := hbr.trans (hb2.mono (by omega)); obtain ⟨y0, y1⟩ := HY.out w2 hbw2)
          | (go_at_call_of 12 (Value.int .i64 num); refine (HT.out _ hP2).mono ?_; rintro e w3 ⟨er, av, cv, rfl, her, hP3, hb3⟩; have her' : ((er : Int) = 0) = False := eq_false (by omega))
          | (refine (HF.out _ hP2).mono ?_; rintro e w2 ⟨rfl, rfl⟩)
          | (refine (HF.out _ hP3).mono ?_; rintro e w3 ⟨rfl, rfl⟩))
        go_roundw
        case rel => exact ⟨i + 1, l, by go_num, by omega, by omega, hP3, hLab, hln, hbw2.trans (hb3.below (Nat.le_refl _) (by have := hb2.size; omega))⟩
        case measure => simp [intOf]; omega
    · by_cases h1 : i < sl
      · have h2 : ¬ i < 60 := fun h => hstop ⟨h1, h⟩
        clear hstop
        go_wp2_with (go_at_call 25; refine (alive_run _).mono ?_; rintro e w3 ⟨rfl, hb3⟩)
        go_ret
        exact ⟨rfl, hbr.trans (hb3.mono (by have := HG.out; have := hbr.size; omega))⟩
      · clear hstop
        go_wp2_with (go_at_call 25; refine (alive_run _).mono ?_; rintro e w3 ⟨rfl, hb3⟩)
        go_ret
        exact ⟨rfl, hbr.trans (hb3.mono (by have := HG.out; have := hbr.size; omega))⟩

theorem taken_all (n : Int) (a : Option Addr) (c : Nat) (acts : List ActV) (w : World) (hS : Acts w a acts) (hlen : acts.length ≤ 9223372036854775807) :
    Calls Try.prog 6 #[.int .i64 n, .slice a acts.length c] w fun e w' => e = .returned (.bool true) ∧ Below w.heap.size w w' := by
  by_cases hn : 16 ≤ n ∧ n ≤ 512
  · obtain ⟨m, rfl⟩ : ∃ m : Nat, n = (m : Int) := ⟨n.toNat, by omega⟩
    exact taken_walk m (by omega) (by omega) a c acts w hS hlen
  · exact taken_bad n hn _ w
end Go.Proofs.Ytfmfjaokpnadaaa
