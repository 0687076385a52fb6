/-
  The walk of the law LabelPlays.
-/
import Derived.Test.YthbcphalokoknaaDoorG30
namespace Go.Proofs.YthbcphalokoknaaDoor
set_option linter.unusedSimpArgs false
set_option linter.unusedVariables false
set_option maxRecDepth 100000
open Go.RowKit

set_option maxHeartbeats 200000000 in
theorem plays_plain (a : Option Addr) (c : Nat) (xs : List ActL) (f : Int) (hf1 : f ≤ 9223372036854775807) (hf0 : ¬ 0 < f) (w : World) (hacts : ActsL w a xs) (hxl : xs.length ≤ 9223372036854775807) (hV : Vars w) :
    Calls Tryd.prog 5 #[.slice a xs.length c, .int .i64 f] w fun e w' => e = .returned (.bool true) ∧ Below w.heap.size w w' := by
  obtain ⟨N, hN⟩ : ∃ N, N = xs.length := ⟨_, rfl⟩
  rw [← hN]
  have HN : Hid (N = xs.length) := hN
  rw [← hN] at hxl
  clear hN
  have hnew := dk_new 16 w (by omega) (by omega)
  have hrnew := fun u => rnew_run 16 u (by omega) (by omega)
  have hrz : rz.length = 5 := rfl
  have HRZ : Hid (∀ w : World, (Instr.alloc 48 true (.tuple #[])).run Tryd.prog w = .ok (.pointer (some ⟨w.heap.size, 0, none⟩)) (w.alloc (.cells rz.toArray 48))) := alloc_rz
  have hzal := actZero_len
  have HACT : Hid (∀ w : World, (Instr.alloc 55 true (.tuple #[])).run Tryd.prog w = .ok (.pointer (some ⟨w.heap.size, 0, none⟩)) (w.alloc (.cells actZero.toArray 55))) := alloc_act0
  have hzl := zero_vs_len
  have HAL : Hid (∀ w : World, (Instr.alloc 29 true (.tuple #[])).run Tryd.prog w = .ok (.pointer (some ⟨w.heap.size, 0, none⟩)) (w.alloc (.cells (Lb.zero.vs none 0).toArray 29))) := alloc_label0
  generalize rz = rzs at *
  generalize actZero = azs at *
  generalize Lb.zero.vs none 0 = zs at *
  have hg : ¬ (0 < f) := hf0
  have hd : decide ((0 : Int) < f) = false := by simp; omega
  go_enter Tryd.func5, Tryd.ntmps5
  go_wp2_with (first
    | (go_at_call 16; go_must (refine hnew.mono ?_); rintro e w1 ⟨p, rfl, hD1, hb1⟩)
    | (go_at_call 17; go_must (refine (hrnew _).mono ?_); rintro e w2 ⟨cs, rfl, hR2, hb2⟩
       obtain ⟨hcl, hco⟩ := hR2.cells5)
    | ((with_reducible show wpList _ _ _ (Oper.mk (some 7) (Op.alloc 48) _ _ _ _ :: _) _ _); refine wpList_alloc0 (by rfl) 48 (by rfl) (some 7) (by rfl) _ HRZ.out ?_; intro w3 hm3 hb3 hs3)
    | ((with_reducible show wpList _ _ _ (Oper.mk _ (Op.store 48 (.tmp 7) (.tmp 32)) _ _ _ _ :: _) _ _); refine wpList_store_blk (by rfl) (.tmp 7) (.tmp 32) 48 (by rfl) _ 0 5 (by rfl) cs (by rfl) rSize hm3 hcl (by omega) hco _ (whole_store hrz) ?_
       intro w4 hm4 hbut4 hs4
       have hb12 := below_then hb1 hb2
       have hb4 : Below w2.heap.size w2 w4 := hb3.trans (hbut4.below (Nat.le_refl _) hb3.size)
       have hbel4 : Below w.heap.size w w4 := below_then hb12 hb4
       have hP4 : Pair w.heap.size w4 (fun k => w.heap.size ≤ k ∧ k < w1.heap.size) (fun k => w1.heap.size ≤ k ∧ k < w2.heap.size) p (DS.new 16) cs (DS.new 16) :=
         ⟨fun k hk => ⟨hk.1, by have := hb2.size; have := hb4.size; omega⟩, fun k hk => by have := hb4.size; omega, fun k h1 h2 => by omega,
          ((hD1.mono (G := fun k => w.heap.size ≤ k ∧ k < w1.heap.size) (fun k hk hl => ⟨hk, hl⟩)).stays hb2).stays hb4, (hR2.keep (G' := fun k => w1.heap.size ≤ k ∧ k < w2.heap.size) (fun k hk hl => ⟨rfl, hk, hl⟩)).stays hb4⟩))
  have hlmm : w.heap.size ≤ w2.heap.size := hb12.size
  obtain ⟨gm, hgm⟩ : ∃ gm, gm = w2.heap.size := ⟨_, rfl⟩
  rw [← hgm] at hlmm hm4 ⊢
  obtain ⟨F0, hF0'⟩ : ∃ F0 : Nat → Prop, F0 = fun k => w.heap.size ≤ k ∧ k < w1.heap.size := ⟨_, rfl⟩
  obtain ⟨G0, hG0'⟩ : ∃ G0 : Nat → Prop, G0 = fun k => w1.heap.size ≤ k ∧ k < w2.heap.size := ⟨_, rfl⟩
  have hF0 : ¬ F0 gm := by rw [hF0']; intro hh; have := hh.2; have := hb2.size; omega
  have hG0 : ¬ G0 gm := by rw [hG0']; intro hh; have := hh.2; omega
  have hP0 : Pair w.heap.size w4 F0 G0 p (DS.new 16) cs (DS.new 16) := by rw [hF0', hG0']; exact hP4
  obtain ⟨S0, hS0'⟩ : ∃ S0, S0 = (DS.new 16) := ⟨_, rfl⟩
  rw [← hS0'] at hP0
  have hS0 : S0.ws = [] := by rw [hS0']; rfl
  have hm0 := hm4
  have hbel0 := hbel4
  have cs0 := 0
  clear cs0
  clear hF0' hG0' hS0' hgm
  go_loopw [9] (fun i wr => ∃ (k : Nat) (F G : Nat → Prop) (S : DS) (cs : List Value), k ≤ 12 ∧ i = .int .i64 k ∧ Pair w.heap.size wr F G p S cs S ∧ Blk 48 wr gm cs ∧ ¬ F gm ∧ ¬ G gm ∧ S.ws.length ≤ 2 * k ∧ Below w.heap.size w wr) (fun i _ => 12 - (intOf i).toNat)
  case atStart => exact ⟨0, F0, G0, S0, cs, by omega, rfl, hP0, hm0, hF0, hG0, by rw [hS0]; simp, hbel0⟩
  case round =>
    rename_i hrel
    obtain ⟨k, F, G, S, cs, hk, rfl, hPr, hmr, hFm, hGm, hws, hbr⟩ := hrel
    clear hP0 hm0 hF0 hG0 hbel0 hS0
    have hPlen := hPr.rf.cells5.1
    by_cases hkN : k < N
    · have hd1 : decide ((k : Int) < (N : Int)) = true := by simp; omega
      by_cases hk12 : k < 12
      · have hd2 : decide ((k : Int) < 12) = true := by simp; omega
        obtain ⟨b, off, ha, hcells, hxok⟩ := hacts.at (show k < xs.length by have := HN.out; omega)
        obtain ⟨x, hx⟩ : ∃ x, x = xs.getD k default := ⟨_, rfl⟩
        rw [← hx] at hcells hxok
        have hix : ∀ u : World, (Instr.indexAt 41 (.slice a N c) (.int .i64 (k : Int))).run Tryd.prog u = .ok (.pointer (some ⟨b, off + k * 42, none⟩)) u := fun u => by
          rw [ha]; exact index_sl42 Tryd.underlying41 (by kernel_rfl) hkN u
        obtain ⟨h36, h37, h38, h39, h40, h41⟩ := ActL.cells_at hxok.l.p
        have hvl := Lb.vs_len hxok.l.p x.la x.lc
        have HLAB : Hid (x.l.vs x.la x.lc = (x.cells.drop 0).take 37) := ActL.cells_label hxok.l.p
        have hal := ActL.cells_len hxok.l.p
        have hao := x.cells_one
        have hblt : b < w.heap.size := World.block_lt_of_cell? w _ (show w.cell? ⟨b, off + k * 42 + 0, none⟩ = some (.int .u32 (x.l.t : Int)) from hcells 0 (by omega))
        obtain ⟨lm, hlm⟩ : ∃ n, n = x.l.m.length := ⟨_, rfl⟩
        obtain ⟨ml, hml⟩ : ∃ n, n = x.ms.length := ⟨_, rfl⟩
        obtain ⟨kl, hkl⟩ : ∃ n, n = x.ks.length := ⟨_, rfl⟩
        rw [← hlm] at h36
        rw [← hml] at h39
        rw [← hkl] at h41
        have hlml : lm ≤ 9223372036854775807 := by have h1 := hxok.lm.cap; have h2 := hxok.lm.capm; unfold maxLen at h2; omega
        have hmll : ml ≤ 9223372036854775807 := by have h1 := hxok.ms.cap; have h2 := hxok.ms.capm; unfold maxLen at h2; omega
        have hkll : kl ≤ 9223372036854775807 := by have := hxok.kl; omega
        have HML : Hid (ml = x.ms.length) := hml
        have HKL : Hid (kl = x.ks.length) := hkl
        obtain ⟨av, hav⟩ : ∃ av, av = x.cells := ⟨_, rfl⟩
        rw [← hav] at hcells h36 h37 h38 h39 h40 h41 HLAB hal hao
        have HC36 : Hid (av[36]? = some (.slice x.la lm x.lc)) := h36
        have HC37 : Hid (av[37]? = some (.bool x.fl)) := h37
        have HC38 : Hid (av[38]? = some (.int .i64 x.at')) := h38
        have HC39 : Hid (av[39]? = some (.slice x.ma ml x.mc)) := h39
        have HC40 : Hid (av[40]? = some (.bool x.cr)) := h40
        have HC41 : Hid (av[41]? = some (.slice x.ka kl x.kc)) := h41
        have HCELL : Hid (∀ u, Below w.heap.size w u → ∀ j, j < 42 → u.cell? ⟨b, off + k * 42 + j, none⟩ = av[j]?) := fun u hu j hj => by
          rw [← hcells j hj]; unfold World.cell?; rw [hu.block b hblt]
        clear hx hav hlm hml hkl h36 h37 h38 h39 h40 h41 ha hcells
        by_cases g1 : 300 < lm
        · go_wp2_with (first
            | ((with_reducible show wpList _ _ _ (Oper.mk _ (Op.load 55 (.tmp 54)) _ _ _ _ :: _) _ _); refine wpList_load_cells (by rfl) (.tmp 54) 55 (by rfl) b (off + k * 42) 42 (by rfl) agg_act size_act av (HCELL.out _ hbr) hal ?_)
            | ((with_reducible show wpList _ _ _ (Oper.mk (some 10) (Op.alloc 55) _ _ _ _ :: _) _ _); refine wpList_alloc0 (by rfl) 55 (by rfl) (some 10) (by rfl) _ HACT.out ?_; intro wa hAa hba hsa)
            | ((with_reducible show wpList _ _ _ (Oper.mk _ (Op.store 55 (.tmp 10) (.tmp 55)) _ _ _ _ :: _) _ _); refine wpList_store_blk (by rfl) (.tmp 10) (.tmp 55) 55 (by rfl) _ 0 42 (by rfl) av (by rfl) size_act hAa hal (by omega) hao _ (whole_store hzal) ?_
               intro wb hAb hbutb hsb
               have hPb : PS w wb F G p S cs S gm wr.heap.size cs av := ps_start hPr hmr hFm hGm hbr hlmm hba hsa hbutb hAb
               have q36 := (hPb.ab.cell 36).trans HC36.out; have q37 := (hPb.ab.cell 37).trans HC37.out; have q39 := (hPb.ab.cell 39).trans HC39.out; have q41 := (hPb.ab.cell 41).trans HC41.out))
          exact ⟨⟨k + 1, _, _, _, _, by omega, by go_num, hPb.pair, hPb.mb, hPb.fm, hPb.gm, by omega, hPb.bel⟩, by simp [intOf]; omega⟩
        · by_cases g2 : 300 < ml
          · go_wp2_with (first
              | ((with_reducible show wpList _ _ _ (Oper.mk _ (Op.load 55 (.tmp 54)) _ _ _ _ :: _) _ _); refine wpList_load_cells (by rfl) (.tmp 54) 55 (by rfl) b (off + k * 42) 42 (by rfl) agg_act size_act av (HCELL.out _ hbr) hal ?_)
              | ((with_reducible show wpList _ _ _ (Oper.mk (some 10) (Op.alloc 55) _ _ _ _ :: _) _ _); refine wpList_alloc0 (by rfl) 55 (by rfl) (some 10) (by rfl) _ HACT.out ?_; intro wa hAa hba hsa)
              | ((with_reducible show wpList _ _ _ (Oper.mk _ (Op.store 55 (.tmp 10) (.tmp 55)) _ _ _ _ :: _) _ _); refine wpList_store_blk (by rfl) (.tmp 10) (.tmp 55) 55 (by rfl) _ 0 42 (by rfl) av (by rfl) size_act hAa hal (by omega) hao _ (whole_store hzal) ?_
                 intro wb hAb hbutb hsb
                 have hPb : PS w wb F G p S cs S gm wr.heap.size cs av := ps_start hPr hmr hFm hGm hbr hlmm hba hsa hbutb hAb
                 have q36 := (hPb.ab.cell 36).trans HC36.out; have q37 := (hPb.ab.cell 37).trans HC37.out; have q39 := (hPb.ab.cell 39).trans HC39.out; have q41 := (hPb.ab.cell 41).trans HC41.out))
            exact ⟨⟨k + 1, _, _, _, _, by omega, by go_num, hPb.pair, hPb.mb, hPb.fm, hPb.gm, by omega, hPb.bel⟩, by simp [intOf]; omega⟩
          · by_cases g3 : 60 < kl
            · go_wp2_with (first
                | ((with_reducible show wpList _ _ _ (Oper.mk _ (Op.load 55 (.tmp 54)) _ _ _ _ :: _) _ _); refine wpList_load_cells (by rfl) (.tmp 54) 55 (by rfl) b (off + k * 42) 42 (by rfl) agg_act size_act av (HCELL.out _ hbr) hal ?_)
                | ((with_reducible show wpList _ _ _ (Oper.mk (some 10) (Op.alloc 55) _ _ _ _ :: _) _ _); refine wpList_alloc0 (by rfl) 55 (by rfl) (some 10) (by rfl) _ HACT.out ?_; intro wa hAa hba hsa)
                | ((with_reducible show wpList _ _ _ (Oper.mk _ (Op.store 55 (.tmp 10) (.tmp 55)) _ _ _ _ :: _) _ _); refine wpList_store_blk (by rfl) (.tmp 10) (.tmp 55) 55 (by rfl) _ 0 42 (by rfl) av (by rfl) size_act hAa hal (by omega) hao _ (whole_store hzal) ?_
                   intro wb hAb hbutb hsb
                   have hPb : PS w wb F G p S cs S gm wr.heap.size cs av := ps_start hPr hmr hFm hGm hbr hlmm hba hsa hbutb hAb
                   have q36 := (hPb.ab.cell 36).trans HC36.out; have q37 := (hPb.ab.cell 37).trans HC37.out; have q39 := (hPb.ab.cell 39).trans HC39.out; have q41 := (hPb.ab.cell 41).trans HC41.out))
              exact ⟨⟨k + 1, _, _, _, _, by omega, by go_num, hPb.pair, hPb.mb, hPb.fm, hPb.gm, by omega, hPb.bel⟩, by simp [intOf]; omega⟩
            · have hms3 : x.ms.length ≤ 300 := by have := HML.out; omega
              have hks6 : x.ks.length ≤ 60 := by have := HKL.out; omega
              cases hfl : x.fl <;> rw [hfl] at HC37 <;> cases hcr : x.cr <;> rw [hcr] at HC40
              · have hw1 : (layL S x.l).1.ws.length ≤ 2 * k + 2 := by have := layL_len S x.l; omega
                have hw3 : ((layL S x.l).1.rot x.at' x.ms).1.ws.length ≤ 2 * k + 2 := by rw [rot_ws]; omega
                go_wp2_with (first
                  | ((with_reducible show wpList _ _ _ (Oper.mk _ (Op.load 55 (.tmp 54)) _ _ _ _ :: _) _ _); refine wpList_load_cells (by rfl) (.tmp 54) 55 (by rfl) b (off + k * 42) 42 (by rfl) agg_act size_act av (HCELL.out _ hbr) hal ?_)
                  | ((with_reducible show wpList _ _ _ (Oper.mk (some 10) (Op.alloc 55) _ _ _ _ :: _) _ _); refine wpList_alloc0 (by rfl) 55 (by rfl) (some 10) (by rfl) _ HACT.out ?_; intro wa hAa hba hsa)
                  | ((with_reducible show wpList _ _ _ (Oper.mk _ (Op.store 55 (.tmp 10) (.tmp 55)) _ _ _ _ :: _) _ _); refine wpList_store_blk (by rfl) (.tmp 10) (.tmp 55) 55 (by rfl) _ 0 42 (by rfl) av (by rfl) size_act hAa hal (by omega) hao _ (whole_store hzal) ?_
                     intro wb hAb hbutb hsb
                     have hPb : PS w wb F G p S cs S gm wr.heap.size cs av := ps_start hPr hmr hFm hGm hbr hlmm hba hsa hbutb hAb
                     have hly := ps_lay hPb x.l hxok.l x.la x.lc (hxok.lm.stays hPb.bel) (hV.stays hPb.bel) (by omega)
                     have q36 := (hPb.ab.cell 36).trans HC36.out; have q37 := (hPb.ab.cell 37).trans HC37.out; have q39 := (hPb.ab.cell 39).trans HC39.out; have q41 := (hPb.ab.cell 41).trans HC41.out)
                  | ((with_reducible show wpList _ _ _ (Oper.mk _ (Op.load 29 (.tmp 74)) _ _ _ _ :: _) _ _); refine wpList_load_blk (by rfl) (.tmp 74) 29 (by rfl) _ 0 37 (by rfl) agg_label size_label hPb.ab _ HLAB.out hvl ?_)
                  | (go_at_call 20; go_must (refine hly.mono ?_); rintro e wc ⟨rfl, F1, hPc⟩
                     have hrl := ps_rlay hPc x.l hxok.l x.la x.lc (hxok.lm.stays hPc.bel) (by omega))
                  | ((with_reducible show wpList _ _ _ (Oper.mk _ (Op.load 48 (.tmp 7)) _ _ _ _ :: _) _ _); refine wpList_load_blk (by rfl) (.tmp 7) 48 (by rfl) _ 0 5 (by rfl) rAgg rSize hPc.mb _ (whole_load hPc.len.1) hPc.len.1 ?_)
                  | ((with_reducible show wpList _ _ _ (Oper.mk _ (Op.load 29 (.tmp 79)) _ _ _ _ :: _) _ _); refine wpList_load_blk (by rfl) (.tmp 79) 29 (by rfl) _ 0 37 (by rfl) agg_label size_label hPc.ab _ HLAB.out hvl ?_)
                  | (go_at_call 21; go_must (refine hrl.mono ?_); rintro e wd ⟨cs1, rfl, G1, hPd⟩
                     obtain ⟨hl1, ho1⟩ := hPd.len)
                  | ((with_reducible show wpList _ _ _ (Oper.mk (some 12) (Op.alloc 48) _ _ _ _ :: _) _ _); refine wpList_alloc0 (by rfl) 48 (by rfl) (some 12) (by rfl) _ HRZ.out ?_; intro we hNe hbe hse)
                  | ((with_reducible show wpList _ _ _ (Oper.mk _ (Op.store 48 (.tmp 12) (.tmp 82)) _ _ _ _ :: _) _ _); refine wpList_store_blk (by rfl) (.tmp 12) (.tmp 82) 48 (by rfl) _ 0 5 (by rfl) cs1 (by rfl) rSize hNe hl1 (by omega) ho1 _ (whole_store hrz) ?_
                     intro wf hNf hbutf hsf
                     have hPf := hPd.fresh hbe hse hbutf)
                  | ((with_reducible show wpList _ _ _ (Oper.mk _ (Op.load 48 (.tmp 12)) _ _ _ _ :: _) _ _); refine wpList_load_blk (by rfl) (.tmp 12) 48 (by rfl) _ 0 5 (by rfl) rAgg rSize hNf _ (whole_load hl1) hl1 ?_)
                  | ((with_reducible show wpList _ _ _ (Oper.mk _ (Op.store 48 (.tmp 7) (.tmp 84)) _ _ _ _ :: _) _ _); refine wpList_store_blk (by rfl) (.tmp 7) (.tmp 84) 48 (by rfl) _ 0 5 (by rfl) cs1 (by rfl) rSize hPf.mb hl1 (by omega) ho1 _ (whole_store hPlen) ?_
                     intro wg hmg hbutg hsg
                     have hPg := hPf.set hbutg hmg
                     have r37 := (hPg.ab.cell 37).trans HC37.out; have r38 := (hPg.ab.cell 38).trans HC38.out; have r39 := (hPg.ab.cell 39).trans HC39.out; have r40 := (hPg.ab.cell 40).trans HC40.out; have r41 := (hPg.ab.cell 41).trans HC41.out
                     have hrw := ps_rot hPg x.at' x.ma x.mc x.ms hxok.ms (by omega)
                     rw [← HML.out] at hrw)
                  | (go_at_call 24; go_must (refine hrw.mono ?_); rintro e wk ⟨⟨vk, rfl⟩, F3, hPk⟩
                     have hrr := ps_rrot hPk x.at' x.ma x.mc x.ms hxok.ms
                     rw [← HML.out] at hrr
                     have u38 := (hPk.ab.cell 38).trans HC38.out; have u39 := (hPk.ab.cell 39).trans HC39.out)
                  | ((with_reducible show wpList _ _ _ (Oper.mk _ (Op.load 48 (.tmp 7)) _ _ _ _ :: _) _ _); refine wpList_load_blk (by rfl) (.tmp 7) 48 (by rfl) _ 0 5 (by rfl) rAgg rSize hPk.mb _ (whole_load hl1) hl1 ?_)
                  | (go_at_call 25; go_must (refine hrr.mono ?_); rintro e wl ⟨cs3, xl, rfl, G3, hPl⟩
                     obtain ⟨hl3, ho3⟩ := hPl.len)
                  | ((with_reducible show wpList _ _ _ (Oper.mk _ (Op.store 48 (.tmp 7) (.tmp 107)) _ _ _ _ :: _) _ _); refine wpList_store_blk (by rfl) (.tmp 7) (.tmp 107) 48 (by rfl) _ 0 5 (by rfl) cs3 (by rfl) rSize hPl.mb hl3 (by omega) ho3 _ (whole_store hl1) ?_
                     intro wm hmm hbutm hsm
                     have hPm := hPl.set hbutm hmm
                     have z40 := (hPm.ab.cell 40).trans HC40.out; have z41 := (hPm.ab.cell 41).trans HC41.out
                     obtain ⟨nF, hokF⟩ := hPm.pair.dk.ok
                     have hCok := chooseL_ok hokF
                     obtain ⟨CL, hCL⟩ : ∃ CL, CL = chooseL ((layL S x.l).1.rot x.at' x.ms).1 := ⟨_, rfl⟩
                     rw [← hCL] at hCok
                     have HCL : Hid (CL = chooseL ((layL S x.l).1.rot x.at' x.ms).1) := hCL
                     clear hCL
                     have hCv : ∀ a c, (CL.1.1.vs a c).length = 37 := fun a c => Lb.vs_len hCok.p a c
                     have hch := choose_run hPm.pair.dk (by omega) (hV.stays hPm.bel)
                     rw [← HCL.out] at hch)
                  | (go_at_call 28; go_must (refine hch.mono ?_); rintro e wq ⟨aq, cq, rfl, hBq, hbq⟩
                     have hPq := hPm.stays hbq)
                  | ((with_reducible show wpList _ _ _ (Oper.mk (some 14) (Op.alloc 29) _ _ _ _ :: _) _ _); refine wpList_alloc0 (by rfl) 29 (by rfl) (some 14) (by rfl) _ HAL.out ?_; intro ws hXs hbs hss)
                  | ((with_reducible show wpList _ _ _ (Oper.mk _ (Op.store 29 (.tmp 14) (.tmp 122)) _ _ _ _ :: _) _ _); refine wpList_store_blk (by rfl) (.tmp 14) (.tmp 122) 29 (by rfl) _ 0 37 (by rfl) _ (by rfl) size_label hXs (hCv _ _) (by omega) (Lb.vs_one _ _ _) _ (whole_store hzl) ?_
                     intro wt hXt hbutt hst
                     have hPt := hPq.fresh hbs hss hbutt
                     have hBt := (hBq.stays hbs).but hbutt (fun h0 y hy => by have := hBq.lt h0 hy; omega)
                     have hrch := rchoose_run hPt.pair.rf (by omega)
                     rw [← HCL.out] at hrch)
                  | ((with_reducible show wpList _ _ _ (Oper.mk _ (Op.load 48 (.tmp 7)) _ _ _ _ :: _) _ _); refine wpList_load_blk (by rfl) (.tmp 7) 48 (by rfl) _ 0 5 (by rfl) rAgg rSize hPt.mb _ (whole_load hl3) hl3 ?_)
                  | (go_at_call 29; go_must (refine hrch.mono ?_); rintro e wu ⟨au, cu, rfl, hBu, hbu⟩
                     have hPu := hPt.stays hbu
                     have hXu := hXt.stays hbu
                     have hBtu := hBt.stays hbu)
                  | ((with_reducible show wpList _ _ _ (Oper.mk (some 17) (Op.alloc 29) _ _ _ _ :: _) _ _); refine wpList_alloc0 (by rfl) 29 (by rfl) (some 17) (by rfl) _ HAL.out ?_; intro wv hYv hbv hsv)
                  | ((with_reducible show wpList _ _ _ (Oper.mk _ (Op.store 29 (.tmp 17) (.tmp 128)) _ _ _ _ :: _) _ _); refine wpList_store_blk (by rfl) (.tmp 17) (.tmp 128) 29 (by rfl) _ 0 37 (by rfl) _ (by rfl) size_label hYv (hCv _ _) (by omega) (Lb.vs_one _ _ _) _ (whole_store hzl) ?_
                     intro wx hYx hbutx hsx
                     have hPx := hPu.fresh hbv hsv hbutx
                     have hXx := (hXu.stays hbv).but hbutx (by have := hXu.lt; omega)
                     have hBtx := (hBtu.stays hbv).but hbutx (fun h0 y hy => by have := hBtu.lt h0 hy; omega)
                     have hBux := (hBu.stays hbv).but hbutx (fun h0 y hy => by have := hBu.lt h0 hy; omega)))
                have hsame : ∀ u, Below wx.heap.size wx u → Calls Tryd.prog 15 #[.agg (CL.1.1.vs aq cq).toArray, .agg (CL.1.1.vs au cu).toArray] u fun e w' => e = .returned (.bool true) ∧ Below u.heap.size u w' := fun u hu => by
                  have := same_run CL.1.1 CL.1.1 hCok hCok aq au cq cu u (hBtx.stays hu) (hBux.stays hu)
                  rwa [Lb.same_self] at this
                have hdump : ∀ u, Below wx.heap.size wx u → Calls Tryd.prog 30 #[.pointer (some ⟨p, 0, none⟩)] u fun e w' => ∃ v, e = .returned v ∧ Below u.heap.size u w' ∧ slB ((layL S x.l).1.rot x.at' x.ms).1.laid.length ((layL S x.l).1.rot x.at' x.ms).1.laid v w' := fun u hu => by
                  refine (dk_dump (hPx.pair.dk.stays hu)).mono ?_
                  rintro e w' ⟨a', c', rfl, ho, hb⟩
                  exact ⟨_, rfl, hb, a', c', rfl, (Out.bs ho hokF.rng).2.1⟩
                have hrdump : ∀ u, Below wx.heap.size wx u → Calls Tryd.prog 31 #[.agg cs3.toArray] u fun e w' => ∃ v, e = .returned v ∧ Below u.heap.size u w' ∧ slB ((layL S x.l).1.rot x.at' x.ms).1.laid.length ((layL S x.l).1.rot x.at' x.ms).1.laid v w' := fun u hu => by
                  refine (rdump_run (hPx.pair.rf.stays hu)).mono ?_
                  rintro e w' ⟨a', c', rfl, hB, hb⟩
                  exact ⟨_, rfl, hb, a', c', rfl, hB⟩
                have hl14 : ∀ u, Below wx.heap.size wx u → (Instr.loadAt 29 (.pointer (some ⟨wq.heap.size, 0, none⟩))).run Tryd.prog u = .ok (.agg (CL.1.1.vs aq cq).toArray) u := fun u hu => run_load_blk agg_label size_label (hXx.stays hu) (whole_load (hCv _ _)) (hCv _ _)
                have hl17 : ∀ u, Below wx.heap.size wx u → (Instr.loadAt 29 (.pointer (some ⟨wu.heap.size, 0, none⟩))).run Tryd.prog u = .ok (.agg (CL.1.1.vs au cu).toArray) u := fun u hu => run_load_blk agg_label size_label (hYx.stays hu) (whole_load (hCv _ _)) (hCv _ _)
                have hl7 : ∀ u, Below wx.heap.size wx u → (Instr.loadAt 48 (.pointer (some ⟨gm, 0, none⟩))).run Tryd.prog u = .ok (.agg cs3.toArray) u := fun u hu => run_load_blk rAgg rSize (hPx.mb.stays hu) (whole_load hl3) hl3
                have HLAST : Hid (((layL S x.l).1.rot x.at' x.ms).1.ws.length ≤ 2 * (k + 1)) := by show _ ≤ _; omega
                obtain ⟨L, hL⟩ : ∃ L, L = ((layL S x.l).1.rot x.at' x.ms).1.laid := ⟨_, rfl⟩
                rw [← hL] at hdump hrdump
                obtain ⟨LN, hLN⟩ : ∃ n, n = L.length := ⟨_, rfl⟩
                rw [← hLN] at hdump hrdump
                have HCN : Hid (∀ a' c' u, slB LN L (.slice a' LN c') u → (convert 27 9 (.slice a' LN c')).run Tryd.prog u = .ok (.string (strOfNums L)) u) := fun a' c' u hu => by
                  obtain ⟨a2, c2, he, hB⟩ := hu
                  cases he
                  exact hB.conv (P := Tryd.prog) LN hLN 27 5 Tryd.underlying27 Tryd.underlying5 9 Tryd.underlying9
                obtain ⟨e1, he1⟩ : ∃ e1, e1 = (layL S x.l).2 := ⟨_, rfl⟩
                rw [← he1]
                clear hL hLN he1
                refine UpT.wp_region_tail 27 (UpT.tell [(6, isV (.bool true)), (21, slB LN L), (24, slB LN L)]) (fun _ => false) (by kernel_rfl) (by kernel_rfl) (UpT.tell_steady _ (by
                  intro p hp
                  simp only [List.mem_cons, List.not_mem_nil, or_false] at hp
                  rcases hp with rfl | rfl | rfl <;> first | exact isV_steady _ | exact slB_steady _ _)) ?_
                simp only [List.take_succ_cons, List.take_zero]
                apply UpT.wpUp_pure
                case hw => rfl
                case hψ => rfl
                case hv => (intro wz hp; clear hp; go_simp; try (with_reducible rfl))
                simp only [Act.put, List.setIfInBounds_toArray, List.set_cons_zero, List.set_cons_succ]
                apply UpT.wpUp_pure
                case hw => rfl
                case hψ => rfl
                case hv => (intro wz hp; clear hp; go_simp; try (with_reducible rfl))
                simp only [Act.put, List.setIfInBounds_toArray, List.set_cons_zero, List.set_cons_succ]
                apply UpT.wpUp_pure
                case hw => rfl
                case hψ => rfl
                case hv => (intro wz hp; clear hp; go_simp; try (with_reducible rfl))
                simp only [Act.put, List.setIfInBounds_toArray, List.set_cons_zero, List.set_cons_succ]
                apply UpT.wpUp_pure
                case hw => rfl
                case hψ => rfl
                case hv => (intro wz hp; clear hp; go_simp; try (with_reducible rfl))
                simp only [Act.put, List.setIfInBounds_toArray, List.set_cons_zero, List.set_cons_succ]
                refine UpT.wpUp_pure (.agg (CL.1.1.vs aq cq).toArray) (by rfl) (by rfl) (fun wz hp => exec_load7 (by rfl) (by rfl) (hl14 wz hp.1)) ?_
                simp only [Act.put, List.setIfInBounds_toArray, List.set_cons_zero, List.set_cons_succ]
                refine UpT.wpUp_pure (.agg (CL.1.1.vs au cu).toArray) (by rfl) (by rfl) (fun wz hp => exec_load7 (by rfl) (by rfl) (hl17 wz hp.1)) ?_
                simp only [Act.put, List.setIfInBounds_toArray, List.set_cons_zero, List.set_cons_succ]
                refine UpT.wpUp_call _ 15 #[.agg (CL.1.1.vs aq cq).toArray, .agg (CL.1.1.vs au cu).toArray] (by rfl) (by rfl) (by rfl) (fun wz => by go_simp) (fun wz hp => calls_isV (hsame wz hp.1)) ?_
                rintro v ⟨u, _, hf⟩
                obtain rfl := hf.of 6 v _ rfl rfl
                clear hf
                simp only [Act.put, List.setIfInBounds_toArray, List.set_cons_zero, List.set_cons_succ]
                apply UpT.wpUp_pure
                case hw => rfl
                case hψ => rfl
                case hv => (intro wz hp; clear hp; go_simp; try (with_reducible rfl))
                simp only [Act.put, List.setIfInBounds_toArray, List.set_cons_zero, List.set_cons_succ]
                apply UpT.wpUp_pure
                case hw => rfl
                case hψ => rfl
                case hv => (intro wz hp; clear hp; go_simp; try (with_reducible rfl))
                simp only [Act.put, List.setIfInBounds_toArray, List.set_cons_zero, List.set_cons_succ]
                apply UpT.wpUp_pure
                case hw => rfl
                case hψ => rfl
                case hv => (intro wz hp; clear hp; go_simp; try (with_reducible rfl))
                simp only [Act.put, List.setIfInBounds_toArray, List.set_cons_zero, List.set_cons_succ]
                apply UpT.wpUp_pure
                case hw => rfl
                case hψ => rfl
                case hv => (intro wz hp; clear hp; go_simp; try (with_reducible rfl))
                simp only [Act.put, List.setIfInBounds_toArray, List.set_cons_zero, List.set_cons_succ]
                apply UpT.wpUp_pure
                case hw => rfl
                case hψ => rfl
                case hv => (intro wz hp; clear hp; go_simp; try (with_reducible rfl))
                simp only [Act.put, List.setIfInBounds_toArray, List.set_cons_zero, List.set_cons_succ]
                apply UpT.wpUp_pure
                case hw => rfl
                case hψ => rfl
                case hv => (intro wz hp; clear hp; go_simp; try (with_reducible rfl))
                simp only [Act.put, List.setIfInBounds_toArray, List.set_cons_zero, List.set_cons_succ]
                apply UpT.wpUp_pure
                case hw => rfl
                case hψ => rfl
                case hv => (intro wz hp; clear hp; go_simp; try (with_reducible rfl))
                simp only [Act.put, List.setIfInBounds_toArray, List.set_cons_zero, List.set_cons_succ]
                apply UpT.wpUp_pure
                case hw => rfl
                case hψ => rfl
                case hv => (intro wz hp; clear hp; go_simp; try (with_reducible rfl))
                simp only [Act.put, List.setIfInBounds_toArray, List.set_cons_zero, List.set_cons_succ]
                apply UpT.wpUp_pure
                case hw => rfl
                case hψ => rfl
                case hv => (intro wz hp; clear hp; go_simp; try (with_reducible rfl))
                simp only [Act.put, List.setIfInBounds_toArray, List.set_cons_zero, List.set_cons_succ]
                apply UpT.wpUp_pure
                case hw => rfl
                case hψ => rfl
                case hv => (intro wz hp; clear hp; go_simp; try (with_reducible rfl))
                simp only [Act.put, List.setIfInBounds_toArray, List.set_cons_zero, List.set_cons_succ]
                apply UpT.wpUp_pure
                case hw => rfl
                case hψ => rfl
                case hv => (intro wz hp; clear hp; go_simp; try (with_reducible rfl))
                simp only [Act.put, List.setIfInBounds_toArray, List.set_cons_zero, List.set_cons_succ]
                apply UpT.wpUp_pure
                case hw => rfl
                case hψ => rfl
                case hv => (intro wz hp; clear hp; go_simp; try (with_reducible rfl))
                simp only [Act.put, List.setIfInBounds_toArray, List.set_cons_zero, List.set_cons_succ]
                apply UpT.wpUp_pure
                case hw => rfl
                case hψ => rfl
                case hv => (intro wz hp; clear hp; go_simp; try (with_reducible rfl))
                simp only [Act.put, List.setIfInBounds_toArray, List.set_cons_zero, List.set_cons_succ]
                apply UpT.wpUp_pure
                case hw => rfl
                case hψ => rfl
                case hv => (intro wz hp; clear hp; go_simp; try (with_reducible rfl))
                simp only [Act.put, List.setIfInBounds_toArray, List.set_cons_zero, List.set_cons_succ]
                refine UpT.wpUp_call _ 30 #[.pointer (some ⟨p, 0, none⟩)] (by rfl) (by rfl) (by rfl) (fun wz => by go_simp) (fun wz hp => hdump wz hp.1) ?_
                rintro v ⟨u, _, hf⟩
                obtain ⟨ad, cd, rfl, _⟩ := hf.of 21 v _ rfl rfl
                clear hf
                simp only [Act.put, List.setIfInBounds_toArray, List.set_cons_zero, List.set_cons_succ]
                apply UpT.wpUp_pure
                case hw => rfl
                case hψ => rfl
                case hv => (intro wz hp; have hq3 := HCN.out _ _ _ (hp.2 21 _ _ rfl rfl rfl); clear hp; go_simp; try (with_reducible rfl))
                simp only [Act.put, List.setIfInBounds_toArray, List.set_cons_zero, List.set_cons_succ]
                refine UpT.wpUp_pure (.agg cs3.toArray) (by rfl) (by rfl) (fun wz hp => exec_load7 (by rfl) (by rfl) (hl7 wz hp.1)) ?_
                simp only [Act.put, List.setIfInBounds_toArray, List.set_cons_zero, List.set_cons_succ]
                refine UpT.wpUp_call _ 31 #[.agg cs3.toArray] (by rfl) (by rfl) (by rfl) (fun wz => by go_simp) (fun wz hp => hrdump wz hp.1) ?_
                rintro v ⟨u, _, hf⟩
                obtain ⟨ae, ce, rfl, _⟩ := hf.of 24 v _ rfl rfl
                clear hf
                simp only [Act.put, List.setIfInBounds_toArray, List.set_cons_zero, List.set_cons_succ]
                apply UpT.wpUp_pure
                case hw => rfl
                case hψ => rfl
                case hv => (intro wz hp; have hq3 := HCN.out _ _ _ (hp.2 24 _ _ rfl rfl rfl); clear hp; go_simp; try (with_reducible rfl))
                simp only [Act.put, List.setIfInBounds_toArray, List.set_cons_zero, List.set_cons_succ]
                apply UpT.wpUp_pure
                case hw => rfl
                case hψ => rfl
                case hv => (intro wz hp; clear hp; go_simp; try (with_reducible rfl))
                simp only [Act.put, List.setIfInBounds_toArray, List.set_cons_zero, List.set_cons_succ]
                refine UpT.wpUp_end ?_
                intro wy hby hf
                clear hf
                simp only [List.drop_succ_cons, List.drop_zero]
                have hPy := hPx.stays hby
                go_wp2
                exact ⟨⟨k + 1, _, _, _, _, by omega, by go_num, hPy.pair, hPy.mb, hPy.fm, hPy.gm, HLAST.out, hPy.bel⟩, by simp [intOf]; omega⟩
              · have hw1 : (layL S x.l).1.ws.length ≤ 2 * k + 2 := by have := layL_len S x.l; omega
                have hw3 : ((layL S x.l).1.rot x.at' x.ms).1.ws.length ≤ 2 * k + 2 := by rw [rot_ws]; omega
                have hw4 : (((layL S x.l).1.rot x.at' x.ms).1.crash x.ks).ws.length ≤ 2 * k + 2 := by rw [crash_ws]; simp
                go_wp2_with (first
                  | ((with_reducible show wpList _ _ _ (Oper.mk _ (Op.load 55 (.tmp 54)) _ _ _ _ :: _) _ _); refine wpList_load_cells (by rfl) (.tmp 54) 55 (by rfl) b (off + k * 42) 42 (by rfl) agg_act size_act av (HCELL.out _ hbr) hal ?_)
                  | ((with_reducible show wpList _ _ _ (Oper.mk (some 10) (Op.alloc 55) _ _ _ _ :: _) _ _); refine wpList_alloc0 (by rfl) 55 (by rfl) (some 10) (by rfl) _ HACT.out ?_; intro wa hAa hba hsa)
                  | ((with_reducible show wpList _ _ _ (Oper.mk _ (Op.store 55 (.tmp 10) (.tmp 55)) _ _ _ _ :: _) _ _); refine wpList_store_blk (by rfl) (.tmp 10) (.tmp 55) 55 (by rfl) _ 0 42 (by rfl) av (by rfl) size_act hAa hal (by omega) hao _ (whole_store hzal) ?_
                     intro wb hAb hbutb hsb
                     have hPb : PS w wb F G p S cs S gm wr.heap.size cs av := ps_start hPr hmr hFm hGm hbr hlmm hba hsa hbutb hAb
                     have hly := ps_lay hPb x.l hxok.l x.la x.lc (hxok.lm.stays hPb.bel) (hV.stays hPb.bel) (by omega)
                     have q36 := (hPb.ab.cell 36).trans HC36.out; have q37 := (hPb.ab.cell 37).trans HC37.out; have q39 := (hPb.ab.cell 39).trans HC39.out; have q41 := (hPb.ab.cell 41).trans HC41.out)
                  | ((with_reducible show wpList _ _ _ (Oper.mk _ (Op.load 29 (.tmp 74)) _ _ _ _ :: _) _ _); refine wpList_load_blk (by rfl) (.tmp 74) 29 (by rfl) _ 0 37 (by rfl) agg_label size_label hPb.ab _ HLAB.out hvl ?_)
                  | (go_at_call 20; go_must (refine hly.mono ?_); rintro e wc ⟨rfl, F1, hPc⟩
                     have hrl := ps_rlay hPc x.l hxok.l x.la x.lc (hxok.lm.stays hPc.bel) (by omega))
                  | ((with_reducible show wpList _ _ _ (Oper.mk _ (Op.load 48 (.tmp 7)) _ _ _ _ :: _) _ _); refine wpList_load_blk (by rfl) (.tmp 7) 48 (by rfl) _ 0 5 (by rfl) rAgg rSize hPc.mb _ (whole_load hPc.len.1) hPc.len.1 ?_)
                  | ((with_reducible show wpList _ _ _ (Oper.mk _ (Op.load 29 (.tmp 79)) _ _ _ _ :: _) _ _); refine wpList_load_blk (by rfl) (.tmp 79) 29 (by rfl) _ 0 37 (by rfl) agg_label size_label hPc.ab _ HLAB.out hvl ?_)
                  | (go_at_call 21; go_must (refine hrl.mono ?_); rintro e wd ⟨cs1, rfl, G1, hPd⟩
                     obtain ⟨hl1, ho1⟩ := hPd.len)
                  | ((with_reducible show wpList _ _ _ (Oper.mk (some 12) (Op.alloc 48) _ _ _ _ :: _) _ _); refine wpList_alloc0 (by rfl) 48 (by rfl) (some 12) (by rfl) _ HRZ.out ?_; intro we hNe hbe hse)
                  | ((with_reducible show wpList _ _ _ (Oper.mk _ (Op.store 48 (.tmp 12) (.tmp 82)) _ _ _ _ :: _) _ _); refine wpList_store_blk (by rfl) (.tmp 12) (.tmp 82) 48 (by rfl) _ 0 5 (by rfl) cs1 (by rfl) rSize hNe hl1 (by omega) ho1 _ (whole_store hrz) ?_
                     intro wf hNf hbutf hsf
                     have hPf := hPd.fresh hbe hse hbutf)
                  | ((with_reducible show wpList _ _ _ (Oper.mk _ (Op.load 48 (.tmp 12)) _ _ _ _ :: _) _ _); refine wpList_load_blk (by rfl) (.tmp 12) 48 (by rfl) _ 0 5 (by rfl) rAgg rSize hNf _ (whole_load hl1) hl1 ?_)
                  | ((with_reducible show wpList _ _ _ (Oper.mk _ (Op.store 48 (.tmp 7) (.tmp 84)) _ _ _ _ :: _) _ _); refine wpList_store_blk (by rfl) (.tmp 7) (.tmp 84) 48 (by rfl) _ 0 5 (by rfl) cs1 (by rfl) rSize hPf.mb hl1 (by omega) ho1 _ (whole_store hPlen) ?_
                     intro wg hmg hbutg hsg
                     have hPg := hPf.set hbutg hmg
                     have r37 := (hPg.ab.cell 37).trans HC37.out; have r38 := (hPg.ab.cell 38).trans HC38.out; have r39 := (hPg.ab.cell 39).trans HC39.out; have r40 := (hPg.ab.cell 40).trans HC40.out; have r41 := (hPg.ab.cell 41).trans HC41.out
                     have hrw := ps_rot hPg x.at' x.ma x.mc x.ms hxok.ms (by omega)
                     rw [← HML.out] at hrw)
                  | (go_at_call 24; go_must (refine hrw.mono ?_); rintro e wk ⟨⟨vk, rfl⟩, F3, hPk⟩
                     have hrr := ps_rrot hPk x.at' x.ma x.mc x.ms hxok.ms
                     rw [← HML.out] at hrr
                     have u38 := (hPk.ab.cell 38).trans HC38.out; have u39 := (hPk.ab.cell 39).trans HC39.out)
                  | ((with_reducible show wpList _ _ _ (Oper.mk _ (Op.load 48 (.tmp 7)) _ _ _ _ :: _) _ _); refine wpList_load_blk (by rfl) (.tmp 7) 48 (by rfl) _ 0 5 (by rfl) rAgg rSize hPk.mb _ (whole_load hl1) hl1 ?_)
                  | (go_at_call 25; go_must (refine hrr.mono ?_); rintro e wl ⟨cs3, xl, rfl, G3, hPl⟩
                     obtain ⟨hl3, ho3⟩ := hPl.len)
                  | ((with_reducible show wpList _ _ _ (Oper.mk _ (Op.store 48 (.tmp 7) (.tmp 107)) _ _ _ _ :: _) _ _); refine wpList_store_blk (by rfl) (.tmp 7) (.tmp 107) 48 (by rfl) _ 0 5 (by rfl) cs3 (by rfl) rSize hPl.mb hl3 (by omega) ho3 _ (whole_store hl1) ?_
                     intro wm hmm hbutm hsm
                     have hPm := hPl.set hbutm hmm
                     have z40 := (hPm.ab.cell 40).trans HC40.out; have z41 := (hPm.ab.cell 41).trans HC41.out
                     have hcw := ps_crash hPm (by omega) x.ka x.kc x.ks hxok.ks (by omega)
                     rw [← HKL.out] at hcw)
                  | (go_at_call 26; go_must (refine hcw.mono ?_); rintro e wn ⟨⟨vn, rfl⟩, F4, hPn⟩
                     have hrc := ps_rcrash hPn (by omega) x.ka x.kc x.ks hxok.ks (by omega)
                     rw [← HKL.out] at hrc
                     have y41 := (hPn.ab.cell 41).trans HC41.out)
                  | ((with_reducible show wpList _ _ _ (Oper.mk _ (Op.load 48 (.tmp 7)) _ _ _ _ :: _) _ _); refine wpList_load_blk (by rfl) (.tmp 7) 48 (by rfl) _ 0 5 (by rfl) rAgg rSize hPn.mb _ (whole_load hl3) hl3 ?_)
                  | (go_at_call 27; go_must (refine hrc.mono ?_); rintro e wo ⟨cs4, rfl, G4, hPo⟩
                     obtain ⟨hl4, ho4⟩ := hPo.len)
                  | ((with_reducible show wpList _ _ _ (Oper.mk _ (Op.store 48 (.tmp 7) (.tmp 118)) _ _ _ _ :: _) _ _); refine wpList_store_blk (by rfl) (.tmp 7) (.tmp 118) 48 (by rfl) _ 0 5 (by rfl) cs4 (by rfl) rSize hPo.mb hl4 (by omega) ho4 _ (whole_store hl3) ?_
                     intro wp hmp hbutp hsp
                     have hPp := hPo.set hbutp hmp
                     obtain ⟨nF, hokF⟩ := hPp.pair.dk.ok
                     have hCok := chooseL_ok hokF
                     obtain ⟨CL, hCL⟩ : ∃ CL, CL = chooseL (((layL S x.l).1.rot x.at' x.ms).1.crash x.ks) := ⟨_, rfl⟩
                     rw [← hCL] at hCok
                     have HCL : Hid (CL = chooseL (((layL S x.l).1.rot x.at' x.ms).1.crash x.ks)) := hCL
                     clear hCL
                     have hCv : ∀ a c, (CL.1.1.vs a c).length = 37 := fun a c => Lb.vs_len hCok.p a c
                     have hch := choose_run hPp.pair.dk (by omega) (hV.stays hPp.bel)
                     rw [← HCL.out] at hch)
                  | (go_at_call 28; go_must (refine hch.mono ?_); rintro e wq ⟨aq, cq, rfl, hBq, hbq⟩
                     have hPq := hPp.stays hbq)
                  | ((with_reducible show wpList _ _ _ (Oper.mk (some 14) (Op.alloc 29) _ _ _ _ :: _) _ _); refine wpList_alloc0 (by rfl) 29 (by rfl) (some 14) (by rfl) _ HAL.out ?_; intro ws hXs hbs hss)
                  | ((with_reducible show wpList _ _ _ (Oper.mk _ (Op.store 29 (.tmp 14) (.tmp 122)) _ _ _ _ :: _) _ _); refine wpList_store_blk (by rfl) (.tmp 14) (.tmp 122) 29 (by rfl) _ 0 37 (by rfl) _ (by rfl) size_label hXs (hCv _ _) (by omega) (Lb.vs_one _ _ _) _ (whole_store hzl) ?_
                     intro wt hXt hbutt hst
                     have hPt := hPq.fresh hbs hss hbutt
                     have hBt := (hBq.stays hbs).but hbutt (fun h0 y hy => by have := hBq.lt h0 hy; omega)
                     have hrch := rchoose_run hPt.pair.rf (by omega)
                     rw [← HCL.out] at hrch)
                  | ((with_reducible show wpList _ _ _ (Oper.mk _ (Op.load 48 (.tmp 7)) _ _ _ _ :: _) _ _); refine wpList_load_blk (by rfl) (.tmp 7) 48 (by rfl) _ 0 5 (by rfl) rAgg rSize hPt.mb _ (whole_load hl4) hl4 ?_)
                  | (go_at_call 29; go_must (refine hrch.mono ?_); rintro e wu ⟨au, cu, rfl, hBu, hbu⟩
                     have hPu := hPt.stays hbu
                     have hXu := hXt.stays hbu
                     have hBtu := hBt.stays hbu)
                  | ((with_reducible show wpList _ _ _ (Oper.mk (some 17) (Op.alloc 29) _ _ _ _ :: _) _ _); refine wpList_alloc0 (by rfl) 29 (by rfl) (some 17) (by rfl) _ HAL.out ?_; intro wv hYv hbv hsv)
                  | ((with_reducible show wpList _ _ _ (Oper.mk _ (Op.store 29 (.tmp 17) (.tmp 128)) _ _ _ _ :: _) _ _); refine wpList_store_blk (by rfl) (.tmp 17) (.tmp 128) 29 (by rfl) _ 0 37 (by rfl) _ (by rfl) size_label hYv (hCv _ _) (by omega) (Lb.vs_one _ _ _) _ (whole_store hzl) ?_
                     intro wx hYx hbutx hsx
                     have hPx := hPu.fresh hbv hsv hbutx
                     have hXx := (hXu.stays hbv).but hbutx (by have := hXu.lt; omega)
                     have hBtx := (hBtu.stays hbv).but hbutx (fun h0 y hy => by have := hBtu.lt h0 hy; omega)
                     have hBux := (hBu.stays hbv).but hbutx (fun h0 y hy => by have := hBu.lt h0 hy; omega)))
                have hsame : ∀ u, Below wx.heap.size wx u → Calls Tryd.prog 15 #[.agg (CL.1.1.vs aq cq).toArray, .agg (CL.1.1.vs au cu).toArray] u fun e w' => e = .returned (.bool true) ∧ Below u.heap.size u w' := fun u hu => by
                  have := same_run CL.1.1 CL.1.1 hCok hCok aq au cq cu u (hBtx.stays hu) (hBux.stays hu)
                  rwa [Lb.same_self] at this
                have hdump : ∀ u, Below wx.heap.size wx u → Calls Tryd.prog 30 #[.pointer (some ⟨p, 0, none⟩)] u fun e w' => ∃ v, e = .returned v ∧ Below u.heap.size u w' ∧ slB (((layL S x.l).1.rot x.at' x.ms).1.crash x.ks).laid.length (((layL S x.l).1.rot x.at' x.ms).1.crash x.ks).laid v w' := fun u hu => by
                  refine (dk_dump (hPx.pair.dk.stays hu)).mono ?_
                  rintro e w' ⟨a', c', rfl, ho, hb⟩
                  exact ⟨_, rfl, hb, a', c', rfl, (Out.bs ho hokF.rng).2.1⟩
                have hrdump : ∀ u, Below wx.heap.size wx u → Calls Tryd.prog 31 #[.agg cs4.toArray] u fun e w' => ∃ v, e = .returned v ∧ Below u.heap.size u w' ∧ slB (((layL S x.l).1.rot x.at' x.ms).1.crash x.ks).laid.length (((layL S x.l).1.rot x.at' x.ms).1.crash x.ks).laid v w' := fun u hu => by
                  refine (rdump_run (hPx.pair.rf.stays hu)).mono ?_
                  rintro e w' ⟨a', c', rfl, hB, hb⟩
                  exact ⟨_, rfl, hb, a', c', rfl, hB⟩
                have hl14 : ∀ u, Below wx.heap.size wx u → (Instr.loadAt 29 (.pointer (some ⟨wq.heap.size, 0, none⟩))).run Tryd.prog u = .ok (.agg (CL.1.1.vs aq cq).toArray) u := fun u hu => run_load_blk agg_label size_label (hXx.stays hu) (whole_load (hCv _ _)) (hCv _ _)
                have hl17 : ∀ u, Below wx.heap.size wx u → (Instr.loadAt 29 (.pointer (some ⟨wu.heap.size, 0, none⟩))).run Tryd.prog u = .ok (.agg (CL.1.1.vs au cu).toArray) u := fun u hu => run_load_blk agg_label size_label (hYx.stays hu) (whole_load (hCv _ _)) (hCv _ _)
                have hl7 : ∀ u, Below wx.heap.size wx u → (Instr.loadAt 48 (.pointer (some ⟨gm, 0, none⟩))).run Tryd.prog u = .ok (.agg cs4.toArray) u := fun u hu => run_load_blk rAgg rSize (hPx.mb.stays hu) (whole_load hl4) hl4
                have HLAST : Hid ((((layL S x.l).1.rot x.at' x.ms).1.crash x.ks).ws.length ≤ 2 * (k + 1)) := by show _ ≤ _; omega
                obtain ⟨L, hL⟩ : ∃ L, L = (((layL S x.l).1.rot x.at' x.ms).1.crash x.ks).laid := ⟨_, rfl⟩
                rw [← hL] at hdump hrdump
                obtain ⟨LN, hLN⟩ : ∃ n, n = L.length := ⟨_, rfl⟩
                rw [← hLN] at hdump hrdump
                have HCN : Hid (∀ a' c' u, slB LN L (.slice a' LN c') u → (convert 27 9 (.slice a' LN c')).run Tryd.prog u = .ok (.string (strOfNums L)) u) := fun a' c' u hu => by
                  obtain ⟨a2, c2, he, hB⟩ := hu
                  cases he
                  exact hB.conv (P := Tryd.prog) LN hLN 27 5 Tryd.underlying27 Tryd.underlying5 9 Tryd.underlying9
                obtain ⟨e1, he1⟩ : ∃ e1, e1 = (layL S x.l).2 := ⟨_, rfl⟩
                rw [← he1]
                clear hL hLN he1
                refine UpT.wp_region_tail 27 (UpT.tell [(6, isV (.bool true)), (21, slB LN L), (24, slB LN L)]) (fun _ => false) (by kernel_rfl) (by kernel_rfl) (UpT.tell_steady _ (by
                  intro p hp
                  simp only [List.mem_cons, List.not_mem_nil, or_false] at hp
                  rcases hp with rfl | rfl | rfl <;> first | exact isV_steady _ | exact slB_steady _ _)) ?_
                simp only [List.take_succ_cons, List.take_zero]
                apply UpT.wpUp_pure
                case hw => rfl
                case hψ => rfl
                case hv => (intro wz hp; clear hp; go_simp; try (with_reducible rfl))
                simp only [Act.put, List.setIfInBounds_toArray, List.set_cons_zero, List.set_cons_succ]
                apply UpT.wpUp_pure
                case hw => rfl
                case hψ => rfl
                case hv => (intro wz hp; clear hp; go_simp; try (with_reducible rfl))
                simp only [Act.put, List.setIfInBounds_toArray, List.set_cons_zero, List.set_cons_succ]
                apply UpT.wpUp_pure
                case hw => rfl
                case hψ => rfl
                case hv => (intro wz hp; clear hp; go_simp; try (with_reducible rfl))
                simp only [Act.put, List.setIfInBounds_toArray, List.set_cons_zero, List.set_cons_succ]
                apply UpT.wpUp_pure
                case hw => rfl
                case hψ => rfl
                case hv => (intro wz hp; clear hp; go_simp; try (with_reducible rfl))
                simp only [Act.put, List.setIfInBounds_toArray, List.set_cons_zero, List.set_cons_succ]
                refine UpT.wpUp_pure (.agg (CL.1.1.vs aq cq).toArray) (by rfl) (by rfl) (fun wz hp => exec_load7 (by rfl) (by rfl) (hl14 wz hp.1)) ?_
                simp only [Act.put, List.setIfInBounds_toArray, List.set_cons_zero, List.set_cons_succ]
                refine UpT.wpUp_pure (.agg (CL.1.1.vs au cu).toArray) (by rfl) (by rfl) (fun wz hp => exec_load7 (by rfl) (by rfl) (hl17 wz hp.1)) ?_
                simp only [Act.put, List.setIfInBounds_toArray, List.set_cons_zero, List.set_cons_succ]
                refine UpT.wpUp_call _ 15 #[.agg (CL.1.1.vs aq cq).toArray, .agg (CL.1.1.vs au cu).toArray] (by rfl) (by rfl) (by rfl) (fun wz => by go_simp) (fun wz hp => calls_isV (hsame wz hp.1)) ?_
                rintro v ⟨u, _, hf⟩
                obtain rfl := hf.of 6 v _ rfl rfl
                clear hf
                simp only [Act.put, List.setIfInBounds_toArray, List.set_cons_zero, List.set_cons_succ]
                apply UpT.wpUp_pure
                case hw => rfl
                case hψ => rfl
                case hv => (intro wz hp; clear hp; go_simp; try (with_reducible rfl))
                simp only [Act.put, List.setIfInBounds_toArray, List.set_cons_zero, List.set_cons_succ]
                apply UpT.wpUp_pure
                case hw => rfl
                case hψ => rfl
                case hv => (intro wz hp; clear hp; go_simp; try (with_reducible rfl))
                simp only [Act.put, List.setIfInBounds_toArray, List.set_cons_zero, List.set_cons_succ]
                apply UpT.wpUp_pure
                case hw => rfl
                case hψ => rfl
                case hv => (intro wz hp; clear hp; go_simp; try (with_reducible rfl))
                simp only [Act.put, List.setIfInBounds_toArray, List.set_cons_zero, List.set_cons_succ]
                apply UpT.wpUp_pure
                case hw => rfl
                case hψ => rfl
                case hv => (intro wz hp; clear hp; go_simp; try (with_reducible rfl))
                simp only [Act.put, List.setIfInBounds_toArray, List.set_cons_zero, List.set_cons_succ]
                apply UpT.wpUp_pure
                case hw => rfl
                case hψ => rfl
                case hv => (intro wz hp; clear hp; go_simp; try (with_reducible rfl))
                simp only [Act.put, List.setIfInBounds_toArray, List.set_cons_zero, List.set_cons_succ]
                apply UpT.wpUp_pure
                case hw => rfl
                case hψ => rfl
                case hv => (intro wz hp; clear hp; go_simp; try (with_reducible rfl))
                simp only [Act.put, List.setIfInBounds_toArray, List.set_cons_zero, List.set_cons_succ]
                apply UpT.wpUp_pure
                case hw => rfl
                case hψ => rfl
                case hv => (intro wz hp; clear hp; go_simp; try (with_reducible rfl))
                simp only [Act.put, List.setIfInBounds_toArray, List.set_cons_zero, List.set_cons_succ]
                apply UpT.wpUp_pure
                case hw => rfl
                case hψ => rfl
                case hv => (intro wz hp; clear hp; go_simp; try (with_reducible rfl))
                simp only [Act.put, List.setIfInBounds_toArray, List.set_cons_zero, List.set_cons_succ]
                apply UpT.wpUp_pure
                case hw => rfl
                case hψ => rfl
                case hv => (intro wz hp; clear hp; go_simp; try (with_reducible rfl))
                simp only [Act.put, List.setIfInBounds_toArray, List.set_cons_zero, List.set_cons_succ]
                apply UpT.wpUp_pure
                case hw => rfl
                case hψ => rfl
                case hv => (intro wz hp; clear hp; go_simp; try (with_reducible rfl))
                simp only [Act.put, List.setIfInBounds_toArray, List.set_cons_zero, List.set_cons_succ]
                apply UpT.wpUp_pure
                case hw => rfl
                case hψ => rfl
                case hv => (intro wz hp; clear hp; go_simp; try (with_reducible rfl))
                simp only [Act.put, List.setIfInBounds_toArray, List.set_cons_zero, List.set_cons_succ]
                apply UpT.wpUp_pure
                case hw => rfl
                case hψ => rfl
                case hv => (intro wz hp; clear hp; go_simp; try (with_reducible rfl))
                simp only [Act.put, List.setIfInBounds_toArray, List.set_cons_zero, List.set_cons_succ]
                apply UpT.wpUp_pure
                case hw => rfl
                case hψ => rfl
                case hv => (intro wz hp; clear hp; go_simp; try (with_reducible rfl))
                simp only [Act.put, List.setIfInBounds_toArray, List.set_cons_zero, List.set_cons_succ]
                apply UpT.wpUp_pure
                case hw => rfl
                case hψ => rfl
                case hv => (intro wz hp; clear hp; go_simp; try (with_reducible rfl))
                simp only [Act.put, List.setIfInBounds_toArray, List.set_cons_zero, List.set_cons_succ]
                refine UpT.wpUp_call _ 30 #[.pointer (some ⟨p, 0, none⟩)] (by rfl) (by rfl) (by rfl) (fun wz => by go_simp) (fun wz hp => hdump wz hp.1) ?_
                rintro v ⟨u, _, hf⟩
                obtain ⟨ad, cd, rfl, _⟩ := hf.of 21 v _ rfl rfl
                clear hf
                simp only [Act.put, List.setIfInBounds_toArray, List.set_cons_zero, List.set_cons_succ]
                apply UpT.wpUp_pure
                case hw => rfl
                case hψ => rfl
                case hv => (intro wz hp; have hq3 := HCN.out _ _ _ (hp.2 21 _ _ rfl rfl rfl); clear hp; go_simp; try (with_reducible rfl))
                simp only [Act.put, List.setIfInBounds_toArray, List.set_cons_zero, List.set_cons_succ]
                refine UpT.wpUp_pure (.agg cs4.toArray) (by rfl) (by rfl) (fun wz hp => exec_load7 (by rfl) (by rfl) (hl7 wz hp.1)) ?_
                simp only [Act.put, List.setIfInBounds_toArray, List.set_cons_zero, List.set_cons_succ]
                refine UpT.wpUp_call _ 31 #[.agg cs4.toArray] (by rfl) (by rfl) (by rfl) (fun wz => by go_simp) (fun wz hp => hrdump wz hp.1) ?_
                rintro v ⟨u, _, hf⟩
                obtain ⟨ae, ce, rfl, _⟩ := hf.of 24 v _ rfl rfl
                clear hf
                simp only [Act.put, List.setIfInBounds_toArray, List.set_cons_zero, List.set_cons_succ]
                apply UpT.wpUp_pure
                case hw => rfl
                case hψ => rfl
                case hv => (intro wz hp; have hq3 := HCN.out _ _ _ (hp.2 24 _ _ rfl rfl rfl); clear hp; go_simp; try (with_reducible rfl))
                simp only [Act.put, List.setIfInBounds_toArray, List.set_cons_zero, List.set_cons_succ]
                apply UpT.wpUp_pure
                case hw => rfl
                case hψ => rfl
                case hv => (intro wz hp; clear hp; go_simp; try (with_reducible rfl))
                simp only [Act.put, List.setIfInBounds_toArray, List.set_cons_zero, List.set_cons_succ]
                refine UpT.wpUp_end ?_
                intro wy hby hf
                clear hf
                simp only [List.drop_succ_cons, List.drop_zero]
                have hPy := hPx.stays hby
                go_wp2
                exact ⟨⟨k + 1, _, _, _, _, by omega, by go_num, hPy.pair, hPy.mb, hPy.fm, hPy.gm, HLAST.out, hPy.bel⟩, by simp [intOf]; omega⟩
              · have hw1 : (layL S x.l).1.ws.length ≤ 2 * k + 2 := by have := layL_len S x.l; omega
                have hw2 : (layL S x.l).1.flush.1.ws.length ≤ 2 * k + 2 := by have := flush_ws (layL S x.l).1; omega
                have hw3 : ((layL S x.l).1.flush.1.rot x.at' x.ms).1.ws.length ≤ 2 * k + 2 := by rw [rot_ws]; omega
                go_wp2_with (first
                  | ((with_reducible show wpList _ _ _ (Oper.mk _ (Op.load 55 (.tmp 54)) _ _ _ _ :: _) _ _); refine wpList_load_cells (by rfl) (.tmp 54) 55 (by rfl) b (off + k * 42) 42 (by rfl) agg_act size_act av (HCELL.out _ hbr) hal ?_)
                  | ((with_reducible show wpList _ _ _ (Oper.mk (some 10) (Op.alloc 55) _ _ _ _ :: _) _ _); refine wpList_alloc0 (by rfl) 55 (by rfl) (some 10) (by rfl) _ HACT.out ?_; intro wa hAa hba hsa)
                  | ((with_reducible show wpList _ _ _ (Oper.mk _ (Op.store 55 (.tmp 10) (.tmp 55)) _ _ _ _ :: _) _ _); refine wpList_store_blk (by rfl) (.tmp 10) (.tmp 55) 55 (by rfl) _ 0 42 (by rfl) av (by rfl) size_act hAa hal (by omega) hao _ (whole_store hzal) ?_
                     intro wb hAb hbutb hsb
                     have hPb : PS w wb F G p S cs S gm wr.heap.size cs av := ps_start hPr hmr hFm hGm hbr hlmm hba hsa hbutb hAb
                     have hly := ps_lay hPb x.l hxok.l x.la x.lc (hxok.lm.stays hPb.bel) (hV.stays hPb.bel) (by omega)
                     have q36 := (hPb.ab.cell 36).trans HC36.out; have q37 := (hPb.ab.cell 37).trans HC37.out; have q39 := (hPb.ab.cell 39).trans HC39.out; have q41 := (hPb.ab.cell 41).trans HC41.out)
                  | ((with_reducible show wpList _ _ _ (Oper.mk _ (Op.load 29 (.tmp 74)) _ _ _ _ :: _) _ _); refine wpList_load_blk (by rfl) (.tmp 74) 29 (by rfl) _ 0 37 (by rfl) agg_label size_label hPb.ab _ HLAB.out hvl ?_)
                  | (go_at_call 20; go_must (refine hly.mono ?_); rintro e wc ⟨rfl, F1, hPc⟩
                     have hrl := ps_rlay hPc x.l hxok.l x.la x.lc (hxok.lm.stays hPc.bel) (by omega))
                  | ((with_reducible show wpList _ _ _ (Oper.mk _ (Op.load 48 (.tmp 7)) _ _ _ _ :: _) _ _); refine wpList_load_blk (by rfl) (.tmp 7) 48 (by rfl) _ 0 5 (by rfl) rAgg rSize hPc.mb _ (whole_load hPc.len.1) hPc.len.1 ?_)
                  | ((with_reducible show wpList _ _ _ (Oper.mk _ (Op.load 29 (.tmp 79)) _ _ _ _ :: _) _ _); refine wpList_load_blk (by rfl) (.tmp 79) 29 (by rfl) _ 0 37 (by rfl) agg_label size_label hPc.ab _ HLAB.out hvl ?_)
                  | (go_at_call 21; go_must (refine hrl.mono ?_); rintro e wd ⟨cs1, rfl, G1, hPd⟩
                     obtain ⟨hl1, ho1⟩ := hPd.len)
                  | ((with_reducible show wpList _ _ _ (Oper.mk (some 12) (Op.alloc 48) _ _ _ _ :: _) _ _); refine wpList_alloc0 (by rfl) 48 (by rfl) (some 12) (by rfl) _ HRZ.out ?_; intro we hNe hbe hse)
                  | ((with_reducible show wpList _ _ _ (Oper.mk _ (Op.store 48 (.tmp 12) (.tmp 82)) _ _ _ _ :: _) _ _); refine wpList_store_blk (by rfl) (.tmp 12) (.tmp 82) 48 (by rfl) _ 0 5 (by rfl) cs1 (by rfl) rSize hNe hl1 (by omega) ho1 _ (whole_store hrz) ?_
                     intro wf hNf hbutf hsf
                     have hPf := hPd.fresh hbe hse hbutf)
                  | ((with_reducible show wpList _ _ _ (Oper.mk _ (Op.load 48 (.tmp 12)) _ _ _ _ :: _) _ _); refine wpList_load_blk (by rfl) (.tmp 12) 48 (by rfl) _ 0 5 (by rfl) rAgg rSize hNf _ (whole_load hl1) hl1 ?_)
                  | ((with_reducible show wpList _ _ _ (Oper.mk _ (Op.store 48 (.tmp 7) (.tmp 84)) _ _ _ _ :: _) _ _); refine wpList_store_blk (by rfl) (.tmp 7) (.tmp 84) 48 (by rfl) _ 0 5 (by rfl) cs1 (by rfl) rSize hPf.mb hl1 (by omega) ho1 _ (whole_store hPlen) ?_
                     intro wg hmg hbutg hsg
                     have hPg := hPf.set hbutg hmg
                     have r37 := (hPg.ab.cell 37).trans HC37.out; have r38 := (hPg.ab.cell 38).trans HC38.out; have r39 := (hPg.ab.cell 39).trans HC39.out; have r40 := (hPg.ab.cell 40).trans HC40.out; have r41 := (hPg.ab.cell 41).trans HC41.out
                     have hfw := ps_flush hPg (by omega))
                  | (go_at_call 22; go_must (refine hfw.mono ?_); rintro e wh ⟨⟨vh, rfl⟩, F2, hPh⟩
                     have hrf := ps_rflush hPh (by omega))
                  | ((with_reducible show wpList _ _ _ (Oper.mk _ (Op.load 48 (.tmp 7)) _ _ _ _ :: _) _ _); refine wpList_load_blk (by rfl) (.tmp 7) 48 (by rfl) _ 0 5 (by rfl) rAgg rSize hPh.mb _ (whole_load hl1) hl1 ?_)
                  | (go_at_call 23; go_must (refine hrf.mono ?_); rintro e wi ⟨cs2, xi, rfl, G2, hPi⟩
                     obtain ⟨hl2, ho2⟩ := hPi.len)
                  | ((with_reducible show wpList _ _ _ (Oper.mk _ (Op.store 48 (.tmp 7) (.tmp 92)) _ _ _ _ :: _) _ _); refine wpList_store_blk (by rfl) (.tmp 7) (.tmp 92) 48 (by rfl) _ 0 5 (by rfl) cs2 (by rfl) rSize hPi.mb hl2 (by omega) ho2 _ (whole_store hl1) ?_
                     intro wj hmj hbutj hsj
                     have hPj := hPi.set hbutj hmj
                     have t38 := (hPj.ab.cell 38).trans HC38.out; have t39 := (hPj.ab.cell 39).trans HC39.out
                     have hrw := ps_rot hPj x.at' x.ma x.mc x.ms hxok.ms (by omega)
                     rw [← HML.out] at hrw)
                  | (go_at_call 24; go_must (refine hrw.mono ?_); rintro e wk ⟨⟨vk, rfl⟩, F3, hPk⟩
                     have hrr := ps_rrot hPk x.at' x.ma x.mc x.ms hxok.ms
                     rw [← HML.out] at hrr
                     have u38 := (hPk.ab.cell 38).trans HC38.out; have u39 := (hPk.ab.cell 39).trans HC39.out)
                  | ((with_reducible show wpList _ _ _ (Oper.mk _ (Op.load 48 (.tmp 7)) _ _ _ _ :: _) _ _); refine wpList_load_blk (by rfl) (.tmp 7) 48 (by rfl) _ 0 5 (by rfl) rAgg rSize hPk.mb _ (whole_load hl2) hl2 ?_)
                  | (go_at_call 25; go_must (refine hrr.mono ?_); rintro e wl ⟨cs3, xl, rfl, G3, hPl⟩
                     obtain ⟨hl3, ho3⟩ := hPl.len)
                  | ((with_reducible show wpList _ _ _ (Oper.mk _ (Op.store 48 (.tmp 7) (.tmp 107)) _ _ _ _ :: _) _ _); refine wpList_store_blk (by rfl) (.tmp 7) (.tmp 107) 48 (by rfl) _ 0 5 (by rfl) cs3 (by rfl) rSize hPl.mb hl3 (by omega) ho3 _ (whole_store hl2) ?_
                     intro wm hmm hbutm hsm
                     have hPm := hPl.set hbutm hmm
                     have z40 := (hPm.ab.cell 40).trans HC40.out; have z41 := (hPm.ab.cell 41).trans HC41.out
                     obtain ⟨nF, hokF⟩ := hPm.pair.dk.ok
                     have hCok := chooseL_ok hokF
                     obtain ⟨CL, hCL⟩ : ∃ CL, CL = chooseL ((layL S x.l).1.flush.1.rot x.at' x.ms).1 := ⟨_, rfl⟩
                     rw [← hCL] at hCok
                     have HCL : Hid (CL = chooseL ((layL S x.l).1.flush.1.rot x.at' x.ms).1) := hCL
                     clear hCL
                     have hCv : ∀ a c, (CL.1.1.vs a c).length = 37 := fun a c => Lb.vs_len hCok.p a c
                     have hch := choose_run hPm.pair.dk (by omega) (hV.stays hPm.bel)
                     rw [← HCL.out] at hch)
                  | (go_at_call 28; go_must (refine hch.mono ?_); rintro e wq ⟨aq, cq, rfl, hBq, hbq⟩
                     have hPq := hPm.stays hbq)
                  | ((with_reducible show wpList _ _ _ (Oper.mk (some 14) (Op.alloc 29) _ _ _ _ :: _) _ _); refine wpList_alloc0 (by rfl) 29 (by rfl) (some 14) (by rfl) _ HAL.out ?_; intro ws hXs hbs hss)
                  | ((with_reducible show wpList _ _ _ (Oper.mk _ (Op.store 29 (.tmp 14) (.tmp 122)) _ _ _ _ :: _) _ _); refine wpList_store_blk (by rfl) (.tmp 14) (.tmp 122) 29 (by rfl) _ 0 37 (by rfl) _ (by rfl) size_label hXs (hCv _ _) (by omega) (Lb.vs_one _ _ _) _ (whole_store hzl) ?_
                     intro wt hXt hbutt hst
                     have hPt := hPq.fresh hbs hss hbutt
                     have hBt := (hBq.stays hbs).but hbutt (fun h0 y hy => by have := hBq.lt h0 hy; omega)
                     have hrch := rchoose_run hPt.pair.rf (by omega)
                     rw [← HCL.out] at hrch)
                  | ((with_reducible show wpList _ _ _ (Oper.mk _ (Op.load 48 (.tmp 7)) _ _ _ _ :: _) _ _); refine wpList_load_blk (by rfl) (.tmp 7) 48 (by rfl) _ 0 5 (by rfl) rAgg rSize hPt.mb _ (whole_load hl3) hl3 ?_)
                  | (go_at_call 29; go_must (refine hrch.mono ?_); rintro e wu ⟨au, cu, rfl, hBu, hbu⟩
                     have hPu := hPt.stays hbu
                     have hXu := hXt.stays hbu
                     have hBtu := hBt.stays hbu)
                  | ((with_reducible show wpList _ _ _ (Oper.mk (some 17) (Op.alloc 29) _ _ _ _ :: _) _ _); refine wpList_alloc0 (by rfl) 29 (by rfl) (some 17) (by rfl) _ HAL.out ?_; intro wv hYv hbv hsv)
                  | ((with_reducible show wpList _ _ _ (Oper.mk _ (Op.store 29 (.tmp 17) (.tmp 128)) _ _ _ _ :: _) _ _); refine wpList_store_blk (by rfl) (.tmp 17) (.tmp 128) 29 (by rfl) _ 0 37 (by rfl) _ (by rfl) size_label hYv (hCv _ _) (by omega) (Lb.vs_one _ _ _) _ (whole_store hzl) ?_
                     intro wx hYx hbutx hsx
                     have hPx := hPu.fresh hbv hsv hbutx
                     have hXx := (hXu.stays hbv).but hbutx (by have := hXu.lt; omega)
                     have hBtx := (hBtu.stays hbv).but hbutx (fun h0 y hy => by have := hBtu.lt h0 hy; omega)
                     have hBux := (hBu.stays hbv).but hbutx (fun h0 y hy => by have := hBu.lt h0 hy; omega)))
                have hsame : ∀ u, Below wx.heap.size wx u → Calls Tryd.prog 15 #[.agg (CL.1.1.vs aq cq).toArray, .agg (CL.1.1.vs au cu).toArray] u fun e w' => e = .returned (.bool true) ∧ Below u.heap.size u w' := fun u hu => by
                  have := same_run CL.1.1 CL.1.1 hCok hCok aq au cq cu u (hBtx.stays hu) (hBux.stays hu)
                  rwa [Lb.same_self] at this
                have hdump : ∀ u, Below wx.heap.size wx u → Calls Tryd.prog 30 #[.pointer (some ⟨p, 0, none⟩)] u fun e w' => ∃ v, e = .returned v ∧ Below u.heap.size u w' ∧ slB ((layL S x.l).1.flush.1.rot x.at' x.ms).1.laid.length ((layL S x.l).1.flush.1.rot x.at' x.ms).1.laid v w' := fun u hu => by
                  refine (dk_dump (hPx.pair.dk.stays hu)).mono ?_
                  rintro e w' ⟨a', c', rfl, ho, hb⟩
                  exact ⟨_, rfl, hb, a', c', rfl, (Out.bs ho hokF.rng).2.1⟩
                have hrdump : ∀ u, Below wx.heap.size wx u → Calls Tryd.prog 31 #[.agg cs3.toArray] u fun e w' => ∃ v, e = .returned v ∧ Below u.heap.size u w' ∧ slB ((layL S x.l).1.flush.1.rot x.at' x.ms).1.laid.length ((layL S x.l).1.flush.1.rot x.at' x.ms).1.laid v w' := fun u hu => by
                  refine (rdump_run (hPx.pair.rf.stays hu)).mono ?_
                  rintro e w' ⟨a', c', rfl, hB, hb⟩
                  exact ⟨_, rfl, hb, a', c', rfl, hB⟩
                have hl14 : ∀ u, Below wx.heap.size wx u → (Instr.loadAt 29 (.pointer (some ⟨wq.heap.size, 0, none⟩))).run Tryd.prog u = .ok (.agg (CL.1.1.vs aq cq).toArray) u := fun u hu => run_load_blk agg_label size_label (hXx.stays hu) (whole_load (hCv _ _)) (hCv _ _)
                have hl17 : ∀ u, Below wx.heap.size wx u → (Instr.loadAt 29 (.pointer (some ⟨wu.heap.size, 0, none⟩))).run Tryd.prog u = .ok (.agg (CL.1.1.vs au cu).toArray) u := fun u hu => run_load_blk agg_label size_label (hYx.stays hu) (whole_load (hCv _ _)) (hCv _ _)
                have hl7 : ∀ u, Below wx.heap.size wx u → (Instr.loadAt 48 (.pointer (some ⟨gm, 0, none⟩))).run Tryd.prog u = .ok (.agg cs3.toArray) u := fun u hu => run_load_blk rAgg rSize (hPx.mb.stays hu) (whole_load hl3) hl3
                have HLAST : Hid (((layL S x.l).1.flush.1.rot x.at' x.ms).1.ws.length ≤ 2 * (k + 1)) := by show _ ≤ _; omega
                obtain ⟨L, hL⟩ : ∃ L, L = ((layL S x.l).1.flush.1.rot x.at' x.ms).1.laid := ⟨_, rfl⟩
                rw [← hL] at hdump hrdump
                obtain ⟨LN, hLN⟩ : ∃ n, n = L.length := ⟨_, rfl⟩
                rw [← hLN] at hdump hrdump
                have HCN : Hid (∀ a' c' u, slB LN L (.slice a' LN c') u → (convert 27 9 (.slice a' LN c')).run Tryd.prog u = .ok (.string (strOfNums L)) u) := fun a' c' u hu => by
                  obtain ⟨a2, c2, he, hB⟩ := hu
                  cases he
                  exact hB.conv (P := Tryd.prog) LN hLN 27 5 Tryd.underlying27 Tryd.underlying5 9 Tryd.underlying9
                obtain ⟨e1, he1⟩ : ∃ e1, e1 = (layL S x.l).2 := ⟨_, rfl⟩
                rw [← he1]
                clear hL hLN he1
                refine UpT.wp_region_tail 27 (UpT.tell [(6, isV (.bool true)), (21, slB LN L), (24, slB LN L)]) (fun _ => false) (by kernel_rfl) (by kernel_rfl) (UpT.tell_steady _ (by
                  intro p hp
                  simp only [List.mem_cons, List.not_mem_nil, or_false] at hp
                  rcases hp with rfl | rfl | rfl <;> first | exact isV_steady _ | exact slB_steady _ _)) ?_
                simp only [List.take_succ_cons, List.take_zero]
                apply UpT.wpUp_pure
                case hw => rfl
                case hψ => rfl
                case hv => (intro wz hp; clear hp; go_simp; try (with_reducible rfl))
                simp only [Act.put, List.setIfInBounds_toArray, List.set_cons_zero, List.set_cons_succ]
                apply UpT.wpUp_pure
                case hw => rfl
                case hψ => rfl
                case hv => (intro wz hp; clear hp; go_simp; try (with_reducible rfl))
                simp only [Act.put, List.setIfInBounds_toArray, List.set_cons_zero, List.set_cons_succ]
                apply UpT.wpUp_pure
                case hw => rfl
                case hψ => rfl
                case hv => (intro wz hp; clear hp; go_simp; try (with_reducible rfl))
                simp only [Act.put, List.setIfInBounds_toArray, List.set_cons_zero, List.set_cons_succ]
                apply UpT.wpUp_pure
                case hw => rfl
                case hψ => rfl
                case hv => (intro wz hp; clear hp; go_simp; try (with_reducible rfl))
                simp only [Act.put, List.setIfInBounds_toArray, List.set_cons_zero, List.set_cons_succ]
                refine UpT.wpUp_pure (.agg (CL.1.1.vs aq cq).toArray) (by rfl) (by rfl) (fun wz hp => exec_load7 (by rfl) (by rfl) (hl14 wz hp.1)) ?_
                simp only [Act.put, List.setIfInBounds_toArray, List.set_cons_zero, List.set_cons_succ]
                refine UpT.wpUp_pure (.agg (CL.1.1.vs au cu).toArray) (by rfl) (by rfl) (fun wz hp => exec_load7 (by rfl) (by rfl) (hl17 wz hp.1)) ?_
                simp only [Act.put, List.setIfInBounds_toArray, List.set_cons_zero, List.set_cons_succ]
                refine UpT.wpUp_call _ 15 #[.agg (CL.1.1.vs aq cq).toArray, .agg (CL.1.1.vs au cu).toArray] (by rfl) (by rfl) (by rfl) (fun wz => by go_simp) (fun wz hp => calls_isV (hsame wz hp.1)) ?_
                rintro v ⟨u, _, hf⟩
                obtain rfl := hf.of 6 v _ rfl rfl
                clear hf
                simp only [Act.put, List.setIfInBounds_toArray, List.set_cons_zero, List.set_cons_succ]
                apply UpT.wpUp_pure
                case hw => rfl
                case hψ => rfl
                case hv => (intro wz hp; clear hp; go_simp; try (with_reducible rfl))
                simp only [Act.put, List.setIfInBounds_toArray, List.set_cons_zero, List.set_cons_succ]
                apply UpT.wpUp_pure
                case hw => rfl
                case hψ => rfl
                case hv => (intro wz hp; clear hp; go_simp; try (with_reducible rfl))
                simp only [Act.put, List.setIfInBounds_toArray, List.set_cons_zero, List.set_cons_succ]
                apply UpT.wpUp_pure
                case hw => rfl
                case hψ => rfl
                case hv => (intro wz hp; clear hp; go_simp; try (with_reducible rfl))
                simp only [Act.put, List.setIfInBounds_toArray, List.set_cons_zero, List.set_cons_succ]
                apply UpT.wpUp_pure
                case hw => rfl
                case hψ => rfl
                case hv => (intro wz hp; clear hp; go_simp; try (with_reducible rfl))
                simp only [Act.put, List.setIfInBounds_toArray, List.set_cons_zero, List.set_cons_succ]
                apply UpT.wpUp_pure
                case hw => rfl
                case hψ => rfl
                case hv => (intro wz hp; clear hp; go_simp; try (with_reducible rfl))
                simp only [Act.put, List.setIfInBounds_toArray, List.set_cons_zero, List.set_cons_succ]
                apply UpT.wpUp_pure
                case hw => rfl
                case hψ => rfl
                case hv => (intro wz hp; clear hp; go_simp; try (with_reducible rfl))
                simp only [Act.put, List.setIfInBounds_toArray, List.set_cons_zero, List.set_cons_succ]
                apply UpT.wpUp_pure
                case hw => rfl
                case hψ => rfl
                case hv => (intro wz hp; clear hp; go_simp; try (with_reducible rfl))
                simp only [Act.put, List.setIfInBounds_toArray, List.set_cons_zero, List.set_cons_succ]
                apply UpT.wpUp_pure
                case hw => rfl
                case hψ => rfl
                case hv => (intro wz hp; clear hp; go_simp; try (with_reducible rfl))
                simp only [Act.put, List.setIfInBounds_toArray, List.set_cons_zero, List.set_cons_succ]
                apply UpT.wpUp_pure
                case hw => rfl
                case hψ => rfl
                case hv => (intro wz hp; clear hp; go_simp; try (with_reducible rfl))
                simp only [Act.put, List.setIfInBounds_toArray, List.set_cons_zero, List.set_cons_succ]
                apply UpT.wpUp_pure
                case hw => rfl
                case hψ => rfl
                case hv => (intro wz hp; clear hp; go_simp; try (with_reducible rfl))
                simp only [Act.put, List.setIfInBounds_toArray, List.set_cons_zero, List.set_cons_succ]
                apply UpT.wpUp_pure
                case hw => rfl
                case hψ => rfl
                case hv => (intro wz hp; clear hp; go_simp; try (with_reducible rfl))
                simp only [Act.put, List.setIfInBounds_toArray, List.set_cons_zero, List.set_cons_succ]
                apply UpT.wpUp_pure
                case hw => rfl
                case hψ => rfl
                case hv => (intro wz hp; clear hp; go_simp; try (with_reducible rfl))
                simp only [Act.put, List.setIfInBounds_toArray, List.set_cons_zero, List.set_cons_succ]
                apply UpT.wpUp_pure
                case hw => rfl
                case hψ => rfl
                case hv => (intro wz hp; clear hp; go_simp; try (with_reducible rfl))
                simp only [Act.put, List.setIfInBounds_toArray, List.set_cons_zero, List.set_cons_succ]
                apply UpT.wpUp_pure
                case hw => rfl
                case hψ => rfl
                case hv => (intro wz hp; clear hp; go_simp; try (with_reducible rfl))
                simp only [Act.put, List.setIfInBounds_toArray, List.set_cons_zero, List.set_cons_succ]
                refine UpT.wpUp_call _ 30 #[.pointer (some ⟨p, 0, none⟩)] (by rfl) (by rfl) (by rfl) (fun wz => by go_simp) (fun wz hp => hdump wz hp.1) ?_
                rintro v ⟨u, _, hf⟩
                obtain ⟨ad, cd, rfl, _⟩ := hf.of 21 v _ rfl rfl
                clear hf
                simp only [Act.put, List.setIfInBounds_toArray, List.set_cons_zero, List.set_cons_succ]
                apply UpT.wpUp_pure
                case hw => rfl
                case hψ => rfl
                case hv => (intro wz hp; have hq3 := HCN.out _ _ _ (hp.2 21 _ _ rfl rfl rfl); clear hp; go_simp; try (with_reducible rfl))
                simp only [Act.put, List.setIfInBounds_toArray, List.set_cons_zero, List.set_cons_succ]
                refine UpT.wpUp_pure (.agg cs3.toArray) (by rfl) (by rfl) (fun wz hp => exec_load7 (by rfl) (by rfl) (hl7 wz hp.1)) ?_
                simp only [Act.put, List.setIfInBounds_toArray, List.set_cons_zero, List.set_cons_succ]
                refine UpT.wpUp_call _ 31 #[.agg cs3.toArray] (by rfl) (by rfl) (by rfl) (fun wz => by go_simp) (fun wz hp => hrdump wz hp.1) ?_
                rintro v ⟨u, _, hf⟩
                obtain ⟨ae, ce, rfl, _⟩ := hf.of 24 v _ rfl rfl
                clear hf
                simp only [Act.put, List.setIfInBounds_toArray, List.set_cons_zero, List.set_cons_succ]
                apply UpT.wpUp_pure
                case hw => rfl
                case hψ => rfl
                case hv => (intro wz hp; have hq3 := HCN.out _ _ _ (hp.2 24 _ _ rfl rfl rfl); clear hp; go_simp; try (with_reducible rfl))
                simp only [Act.put, List.setIfInBounds_toArray, List.set_cons_zero, List.set_cons_succ]
                apply UpT.wpUp_pure
                case hw => rfl
                case hψ => rfl
                case hv => (intro wz hp; clear hp; go_simp; try (with_reducible rfl))
                simp only [Act.put, List.setIfInBounds_toArray, List.set_cons_zero, List.set_cons_succ]
                refine UpT.wpUp_end ?_
                intro wy hby hf
                clear hf
                simp only [List.drop_succ_cons, List.drop_zero]
                have hPy := hPx.stays hby
                go_wp2
                exact ⟨⟨k + 1, _, _, _, _, by omega, by go_num, hPy.pair, hPy.mb, hPy.fm, hPy.gm, HLAST.out, hPy.bel⟩, by simp [intOf]; omega⟩
              · have hw1 : (layL S x.l).1.ws.length ≤ 2 * k + 2 := by have := layL_len S x.l; omega
                have hw2 : (layL S x.l).1.flush.1.ws.length ≤ 2 * k + 2 := by have := flush_ws (layL S x.l).1; omega
                have hw3 : ((layL S x.l).1.flush.1.rot x.at' x.ms).1.ws.length ≤ 2 * k + 2 := by rw [rot_ws]; omega
                have hw4 : (((layL S x.l).1.flush.1.rot x.at' x.ms).1.crash x.ks).ws.length ≤ 2 * k + 2 := by rw [crash_ws]; simp
                go_wp2_with (first
                  | ((with_reducible show wpList _ _ _ (Oper.mk _ (Op.load 55 (.tmp 54)) _ _ _ _ :: _) _ _); refine wpList_load_cells (by rfl) (.tmp 54) 55 (by rfl) b (off + k * 42) 42 (by rfl) agg_act size_act av (HCELL.out _ hbr) hal ?_)
                  | ((with_reducible show wpList _ _ _ (Oper.mk (some 10) (Op.alloc 55) _ _ _ _ :: _) _ _); refine wpList_alloc0 (by rfl) 55 (by rfl) (some 10) (by rfl) _ HACT.out ?_; intro wa hAa hba hsa)
                  | ((with_reducible show wpList _ _ _ (Oper.mk _ (Op.store 55 (.tmp 10) (.tmp 55)) _ _ _ _ :: _) _ _); refine wpList_store_blk (by rfl) (.tmp 10) (.tmp 55) 55 (by rfl) _ 0 42 (by rfl) av (by rfl) size_act hAa hal (by omega) hao _ (whole_store hzal) ?_
                     intro wb hAb hbutb hsb
                     have hPb : PS w wb F G p S cs S gm wr.heap.size cs av := ps_start hPr hmr hFm hGm hbr hlmm hba hsa hbutb hAb
                     have hly := ps_lay hPb x.l hxok.l x.la x.lc (hxok.lm.stays hPb.bel) (hV.stays hPb.bel) (by omega)
                     have q36 := (hPb.ab.cell 36).trans HC36.out; have q37 := (hPb.ab.cell 37).trans HC37.out; have q39 := (hPb.ab.cell 39).trans HC39.out; have q41 := (hPb.ab.cell 41).trans HC41.out)
                  | ((with_reducible show wpList _ _ _ (Oper.mk _ (Op.load 29 (.tmp 74)) _ _ _ _ :: _) _ _); refine wpList_load_blk (by rfl) (.tmp 74) 29 (by rfl) _ 0 37 (by rfl) agg_label size_label hPb.ab _ HLAB.out hvl ?_)
                  | (go_at_call 20; go_must (refine hly.mono ?_); rintro e wc ⟨rfl, F1, hPc⟩
                     have hrl := ps_rlay hPc x.l hxok.l x.la x.lc (hxok.lm.stays hPc.bel) (by omega))
                  | ((with_reducible show wpList _ _ _ (Oper.mk _ (Op.load 48 (.tmp 7)) _ _ _ _ :: _) _ _); refine wpList_load_blk (by rfl) (.tmp 7) 48 (by rfl) _ 0 5 (by rfl) rAgg rSize hPc.mb _ (whole_load hPc.len.1) hPc.len.1 ?_)
                  | ((with_reducible show wpList _ _ _ (Oper.mk _ (Op.load 29 (.tmp 79)) _ _ _ _ :: _) _ _); refine wpList_load_blk (by rfl) (.tmp 79) 29 (by rfl) _ 0 37 (by rfl) agg_label size_label hPc.ab _ HLAB.out hvl ?_)
                  | (go_at_call 21; go_must (refine hrl.mono ?_); rintro e wd ⟨cs1, rfl, G1, hPd⟩
                     obtain ⟨hl1, ho1⟩ := hPd.len)
                  | ((with_reducible show wpList _ _ _ (Oper.mk (some 12) (Op.alloc 48) _ _ _ _ :: _) _ _); refine wpList_alloc0 (by rfl) 48 (by rfl) (some 12) (by rfl) _ HRZ.out ?_; intro we hNe hbe hse)
                  | ((with_reducible show wpList _ _ _ (Oper.mk _ (Op.store 48 (.tmp 12) (.tmp 82)) _ _ _ _ :: _) _ _); refine wpList_store_blk (by rfl) (.tmp 12) (.tmp 82) 48 (by rfl) _ 0 5 (by rfl) cs1 (by rfl) rSize hNe hl1 (by omega) ho1 _ (whole_store hrz) ?_
                     intro wf hNf hbutf hsf
                     have hPf := hPd.fresh hbe hse hbutf)
                  | ((with_reducible show wpList _ _ _ (Oper.mk _ (Op.load 48 (.tmp 12)) _ _ _ _ :: _) _ _); refine wpList_load_blk (by rfl) (.tmp 12) 48 (by rfl) _ 0 5 (by rfl) rAgg rSize hNf _ (whole_load hl1) hl1 ?_)
                  | ((with_reducible show wpList _ _ _ (Oper.mk _ (Op.store 48 (.tmp 7) (.tmp 84)) _ _ _ _ :: _) _ _); refine wpList_store_blk (by rfl) (.tmp 7) (.tmp 84) 48 (by rfl) _ 0 5 (by rfl) cs1 (by rfl) rSize hPf.mb hl1 (by omega) ho1 _ (whole_store hPlen) ?_
                     intro wg hmg hbutg hsg
                     have hPg := hPf.set hbutg hmg
                     have r37 := (hPg.ab.cell 37).trans HC37.out; have r38 := (hPg.ab.cell 38).trans HC38.out; have r39 := (hPg.ab.cell 39).trans HC39.out; have r40 := (hPg.ab.cell 40).trans HC40.out; have r41 := (hPg.ab.cell 41).trans HC41.out
                     have hfw := ps_flush hPg (by omega))
                  | (go_at_call 22; go_must (refine hfw.mono ?_); rintro e wh ⟨⟨vh, rfl⟩, F2, hPh⟩
                     have hrf := ps_rflush hPh (by omega))
                  | ((with_reducible show wpList _ _ _ (Oper.mk _ (Op.load 48 (.tmp 7)) _ _ _ _ :: _) _ _); refine wpList_load_blk (by rfl) (.tmp 7) 48 (by rfl) _ 0 5 (by rfl) rAgg rSize hPh.mb _ (whole_load hl1) hl1 ?_)
                  | (go_at_call 23; go_must (refine hrf.mono ?_); rintro e wi ⟨cs2, xi, rfl, G2, hPi⟩
                     obtain ⟨hl2, ho2⟩ := hPi.len)
                  | ((with_reducible show wpList _ _ _ (Oper.mk _ (Op.store 48 (.tmp 7) (.tmp 92)) _ _ _ _ :: _) _ _); refine wpList_store_blk (by rfl) (.tmp 7) (.tmp 92) 48 (by rfl) _ 0 5 (by rfl) cs2 (by rfl) rSize hPi.mb hl2 (by omega) ho2 _ (whole_store hl1) ?_
                     intro wj hmj hbutj hsj
                     have hPj := hPi.set hbutj hmj
                     have t38 := (hPj.ab.cell 38).trans HC38.out; have t39 := (hPj.ab.cell 39).trans HC39.out
                     have hrw := ps_rot hPj x.at' x.ma x.mc x.ms hxok.ms (by omega)
                     rw [← HML.out] at hrw)
                  | (go_at_call 24; go_must (refine hrw.mono ?_); rintro e wk ⟨⟨vk, rfl⟩, F3, hPk⟩
                     have hrr := ps_rrot hPk x.at' x.ma x.mc x.ms hxok.ms
                     rw [← HML.out] at hrr
                     have u38 := (hPk.ab.cell 38).trans HC38.out; have u39 := (hPk.ab.cell 39).trans HC39.out)
                  | ((with_reducible show wpList _ _ _ (Oper.mk _ (Op.load 48 (.tmp 7)) _ _ _ _ :: _) _ _); refine wpList_load_blk (by rfl) (.tmp 7) 48 (by rfl) _ 0 5 (by rfl) rAgg rSize hPk.mb _ (whole_load hl2) hl2 ?_)
                  | (go_at_call 25; go_must (refine hrr.mono ?_); rintro e wl ⟨cs3, xl, rfl, G3, hPl⟩
                     obtain ⟨hl3, ho3⟩ := hPl.len)
                  | ((with_reducible show wpList _ _ _ (Oper.mk _ (Op.store 48 (.tmp 7) (.tmp 107)) _ _ _ _ :: _) _ _); refine wpList_store_blk (by rfl) (.tmp 7) (.tmp 107) 48 (by rfl) _ 0 5 (by rfl) cs3 (by rfl) rSize hPl.mb hl3 (by omega) ho3 _ (whole_store hl2) ?_
                     intro wm hmm hbutm hsm
                     have hPm := hPl.set hbutm hmm
                     have z40 := (hPm.ab.cell 40).trans HC40.out; have z41 := (hPm.ab.cell 41).trans HC41.out
                     have hcw := ps_crash hPm (by omega) x.ka x.kc x.ks hxok.ks (by omega)
                     rw [← HKL.out] at hcw)
                  | (go_at_call 26; go_must (refine hcw.mono ?_); rintro e wn ⟨⟨vn, rfl⟩, F4, hPn⟩
                     have hrc := ps_rcrash hPn (by omega) x.ka x.kc x.ks hxok.ks (by omega)
                     rw [← HKL.out] at hrc
                     have y41 := (hPn.ab.cell 41).trans HC41.out)
                  | ((with_reducible show wpList _ _ _ (Oper.mk _ (Op.load 48 (.tmp 7)) _ _ _ _ :: _) _ _); refine wpList_load_blk (by rfl) (.tmp 7) 48 (by rfl) _ 0 5 (by rfl) rAgg rSize hPn.mb _ (whole_load hl3) hl3 ?_)
                  | (go_at_call 27; go_must (refine hrc.mono ?_); rintro e wo ⟨cs4, rfl, G4, hPo⟩
                     obtain ⟨hl4, ho4⟩ := hPo.len)
                  | ((with_reducible show wpList _ _ _ (Oper.mk _ (Op.store 48 (.tmp 7) (.tmp 118)) _ _ _ _ :: _) _ _); refine wpList_store_blk (by rfl) (.tmp 7) (.tmp 118) 48 (by rfl) _ 0 5 (by rfl) cs4 (by rfl) rSize hPo.mb hl4 (by omega) ho4 _ (whole_store hl3) ?_
                     intro wp hmp hbutp hsp
                     have hPp := hPo.set hbutp hmp
                     obtain ⟨nF, hokF⟩ := hPp.pair.dk.ok
                     have hCok := chooseL_ok hokF
                     obtain ⟨CL, hCL⟩ : ∃ CL, CL = chooseL (((layL S x.l).1.flush.1.rot x.at' x.ms).1.crash x.ks) := ⟨_, rfl⟩
                     rw [← hCL] at hCok
                     have HCL : Hid (CL = chooseL (((layL S x.l).1.flush.1.rot x.at' x.ms).1.crash x.ks)) := hCL
                     clear hCL
                     have hCv : ∀ a c, (CL.1.1.vs a c).length = 37 := fun a c => Lb.vs_len hCok.p a c
                     have hch := choose_run hPp.pair.dk (by omega) (hV.stays hPp.bel)
                     rw [← HCL.out] at hch)
                  | (go_at_call 28; go_must (refine hch.mono ?_); rintro e wq ⟨aq, cq, rfl, hBq, hbq⟩
                     have hPq := hPp.stays hbq)
                  | ((with_reducible show wpList _ _ _ (Oper.mk (some 14) (Op.alloc 29) _ _ _ _ :: _) _ _); refine wpList_alloc0 (by rfl) 29 (by rfl) (some 14) (by rfl) _ HAL.out ?_; intro ws hXs hbs hss)
                  | ((with_reducible show wpList _ _ _ (Oper.mk _ (Op.store 29 (.tmp 14) (.tmp 122)) _ _ _ _ :: _) _ _); refine wpList_store_blk (by rfl) (.tmp 14) (.tmp 122) 29 (by rfl) _ 0 37 (by rfl) _ (by rfl) size_label hXs (hCv _ _) (by omega) (Lb.vs_one _ _ _) _ (whole_store hzl) ?_
                     intro wt hXt hbutt hst
                     have hPt := hPq.fresh hbs hss hbutt
                     have hBt := (hBq.stays hbs).but hbutt (fun h0 y hy => by have := hBq.lt h0 hy; omega)
                     have hrch := rchoose_run hPt.pair.rf (by omega)
                     rw [← HCL.out] at hrch)
                  | ((with_reducible show wpList _ _ _ (Oper.mk _ (Op.load 48 (.tmp 7)) _ _ _ _ :: _) _ _); refine wpList_load_blk (by rfl) (.tmp 7) 48 (by rfl) _ 0 5 (by rfl) rAgg rSize hPt.mb _ (whole_load hl4) hl4 ?_)
                  | (go_at_call 29; go_must (refine hrch.mono ?_); rintro e wu ⟨au, cu, rfl, hBu, hbu⟩
                     have hPu := hPt.stays hbu
                     have hXu := hXt.stays hbu
                     have hBtu := hBt.stays hbu)
                  | ((with_reducible show wpList _ _ _ (Oper.mk (some 17) (Op.alloc 29) _ _ _ _ :: _) _ _); refine wpList_alloc0 (by rfl) 29 (by rfl) (some 17) (by rfl) _ HAL.out ?_; intro wv hYv hbv hsv)
                  | ((with_reducible show wpList _ _ _ (Oper.mk _ (Op.store 29 (.tmp 17) (.tmp 128)) _ _ _ _ :: _) _ _); refine wpList_store_blk (by rfl) (.tmp 17) (.tmp 128) 29 (by rfl) _ 0 37 (by rfl) _ (by rfl) size_label hYv (hCv _ _) (by omega) (Lb.vs_one _ _ _) _ (whole_store hzl) ?_
                     intro wx hYx hbutx hsx
                     have hPx := hPu.fresh hbv hsv hbutx
                     have hXx := (hXu.stays hbv).but hbutx (by have := hXu.lt; omega)
                     have hBtx := (hBtu.stays hbv).but hbutx (fun h0 y hy => by have := hBtu.lt h0 hy; omega)
                     have hBux := (hBu.stays hbv).but hbutx (fun h0 y hy => by have := hBu.lt h0 hy; omega)))
                have hsame : ∀ u, Below wx.heap.size wx u → Calls Tryd.prog 15 #[.agg (CL.1.1.vs aq cq).toArray, .agg (CL.1.1.vs au cu).toArray] u fun e w' => e = .returned (.bool true) ∧ Below u.heap.size u w' := fun u hu => by
                  have := same_run CL.1.1 CL.1.1 hCok hCok aq au cq cu u (hBtx.stays hu) (hBux.stays hu)
                  rwa [Lb.same_self] at this
                have hdump : ∀ u, Below wx.heap.size wx u → Calls Tryd.prog 30 #[.pointer (some ⟨p, 0, none⟩)] u fun e w' => ∃ v, e = .returned v ∧ Below u.heap.size u w' ∧ slB (((layL S x.l).1.flush.1.rot x.at' x.ms).1.crash x.ks).laid.length (((layL S x.l).1.flush.1.rot x.at' x.ms).1.crash x.ks).laid v w' := fun u hu => by
                  refine (dk_dump (hPx.pair.dk.stays hu)).mono ?_
                  rintro e w' ⟨a', c', rfl, ho, hb⟩
                  exact ⟨_, rfl, hb, a', c', rfl, (Out.bs ho hokF.rng).2.1⟩
                have hrdump : ∀ u, Below wx.heap.size wx u → Calls Tryd.prog 31 #[.agg cs4.toArray] u fun e w' => ∃ v, e = .returned v ∧ Below u.heap.size u w' ∧ slB (((layL S x.l).1.flush.1.rot x.at' x.ms).1.crash x.ks).laid.length (((layL S x.l).1.flush.1.rot x.at' x.ms).1.crash x.ks).laid v w' := fun u hu => by
                  refine (rdump_run (hPx.pair.rf.stays hu)).mono ?_
                  rintro e w' ⟨a', c', rfl, hB, hb⟩
                  exact ⟨_, rfl, hb, a', c', rfl, hB⟩
                have hl14 : ∀ u, Below wx.heap.size wx u → (Instr.loadAt 29 (.pointer (some ⟨wq.heap.size, 0, none⟩))).run Tryd.prog u = .ok (.agg (CL.1.1.vs aq cq).toArray) u := fun u hu => run_load_blk agg_label size_label (hXx.stays hu) (whole_load (hCv _ _)) (hCv _ _)
                have hl17 : ∀ u, Below wx.heap.size wx u → (Instr.loadAt 29 (.pointer (some ⟨wu.heap.size, 0, none⟩))).run Tryd.prog u = .ok (.agg (CL.1.1.vs au cu).toArray) u := fun u hu => run_load_blk agg_label size_label (hYx.stays hu) (whole_load (hCv _ _)) (hCv _ _)
                have hl7 : ∀ u, Below wx.heap.size wx u → (Instr.loadAt 48 (.pointer (some ⟨gm, 0, none⟩))).run Tryd.prog u = .ok (.agg cs4.toArray) u := fun u hu => run_load_blk rAgg rSize (hPx.mb.stays hu) (whole_load hl4) hl4
                have HLAST : Hid ((((layL S x.l).1.flush.1.rot x.at' x.ms).1.crash x.ks).ws.length ≤ 2 * (k + 1)) := by show _ ≤ _; omega
                obtain ⟨L, hL⟩ : ∃ L, L = (((layL S x.l).1.flush.1.rot x.at' x.ms).1.crash x.ks).laid := ⟨_, rfl⟩
                rw [← hL] at hdump hrdump
                obtain ⟨LN, hLN⟩ : ∃ n, n = L.length := ⟨_, rfl⟩
                rw [← hLN] at hdump hrdump
                have HCN : Hid (∀ a' c' u, slB LN L (.slice a' LN c') u → (convert 27 9 (.slice a' LN c')).run Tryd.prog u = .ok (.string (strOfNums L)) u) := fun a' c' u hu => by
                  obtain ⟨a2, c2, he, hB⟩ := hu
                  cases he
                  exact hB.conv (P := Tryd.prog) LN hLN 27 5 Tryd.underlying27 Tryd.underlying5 9 Tryd.underlying9
                obtain ⟨e1, he1⟩ : ∃ e1, e1 = (layL S x.l).2 := ⟨_, rfl⟩
                rw [← he1]
                clear hL hLN he1
                refine UpT.wp_region_tail 27 (UpT.tell [(6, isV (.bool true)), (21, slB LN L), (24, slB LN L)]) (fun _ => false) (by kernel_rfl) (by kernel_rfl) (UpT.tell_steady _ (by
                  intro p hp
                  simp only [List.mem_cons, List.not_mem_nil, or_false] at hp
                  rcases hp with rfl | rfl | rfl <;> first | exact isV_steady _ | exact slB_steady _ _)) ?_
                simp only [List.take_succ_cons, List.take_zero]
                apply UpT.wpUp_pure
                case hw => rfl
                case hψ => rfl
                case hv => (intro wz hp; clear hp; go_simp; try (with_reducible rfl))
                simp only [Act.put, List.setIfInBounds_toArray, List.set_cons_zero, List.set_cons_succ]
                apply UpT.wpUp_pure
                case hw => rfl
                case hψ => rfl
                case hv => (intro wz hp; clear hp; go_simp; try (with_reducible rfl))
                simp only [Act.put, List.setIfInBounds_toArray, List.set_cons_zero, List.set_cons_succ]
                apply UpT.wpUp_pure
                case hw => rfl
                case hψ => rfl
                case hv => (intro wz hp; clear hp; go_simp; try (with_reducible rfl))
                simp only [Act.put, List.setIfInBounds_toArray, List.set_cons_zero, List.set_cons_succ]
                apply UpT.wpUp_pure
                case hw => rfl
                case hψ => rfl
                case hv => (intro wz hp; clear hp; go_simp; try (with_reducible rfl))
                simp only [Act.put, List.setIfInBounds_toArray, List.set_cons_zero, List.set_cons_succ]
                refine UpT.wpUp_pure (.agg (CL.1.1.vs aq cq).toArray) (by rfl) (by rfl) (fun wz hp => exec_load7 (by rfl) (by rfl) (hl14 wz hp.1)) ?_
                simp only [Act.put, List.setIfInBounds_toArray, List.set_cons_zero, List.set_cons_succ]
                refine UpT.wpUp_pure (.agg (CL.1.1.vs au cu).toArray) (by rfl) (by rfl) (fun wz hp => exec_load7 (by rfl) (by rfl) (hl17 wz hp.1)) ?_
                simp only [Act.put, List.setIfInBounds_toArray, List.set_cons_zero, List.set_cons_succ]
                refine UpT.wpUp_call _ 15 #[.agg (CL.1.1.vs aq cq).toArray, .agg (CL.1.1.vs au cu).toArray] (by rfl) (by rfl) (by rfl) (fun wz => by go_simp) (fun wz hp => calls_isV (hsame wz hp.1)) ?_
                rintro v ⟨u, _, hf⟩
                obtain rfl := hf.of 6 v _ rfl rfl
                clear hf
                simp only [Act.put, List.setIfInBounds_toArray, List.set_cons_zero, List.set_cons_succ]
                apply UpT.wpUp_pure
                case hw => rfl
                case hψ => rfl
                case hv => (intro wz hp; clear hp; go_simp; try (with_reducible rfl))
                simp only [Act.put, List.setIfInBounds_toArray, List.set_cons_zero, List.set_cons_succ]
                apply UpT.wpUp_pure
                case hw => rfl
                case hψ => rfl
                case hv => (intro wz hp; clear hp; go_simp; try (with_reducible rfl))
                simp only [Act.put, List.setIfInBounds_toArray, List.set_cons_zero, List.set_cons_succ]
                apply UpT.wpUp_pure
                case hw => rfl
                case hψ => rfl
                case hv => (intro wz hp; clear hp; go_simp; try (with_reducible rfl))
                simp only [Act.put, List.setIfInBounds_toArray, List.set_cons_zero, List.set_cons_succ]
                apply UpT.wpUp_pure
                case hw => rfl
                case hψ => rfl
                case hv => (intro wz hp; clear hp; go_simp; try (with_reducible rfl))
                simp only [Act.put, List.setIfInBounds_toArray, List.set_cons_zero, List.set_cons_succ]
                apply UpT.wpUp_pure
                case hw => rfl
                case hψ => rfl
                case hv => (intro wz hp; clear hp; go_simp; try (with_reducible rfl))
                simp only [Act.put, List.setIfInBounds_toArray, List.set_cons_zero, List.set_cons_succ]
                apply UpT.wpUp_pure
                case hw => rfl
                case hψ => rfl
                case hv => (intro wz hp; clear hp; go_simp; try (with_reducible rfl))
                simp only [Act.put, List.setIfInBounds_toArray, List.set_cons_zero, List.set_cons_succ]
                apply UpT.wpUp_pure
                case hw => rfl
                case hψ => rfl
                case hv => (intro wz hp; clear hp; go_simp; try (with_reducible rfl))
                simp only [Act.put, List.setIfInBounds_toArray, List.set_cons_zero, List.set_cons_succ]
                apply UpT.wpUp_pure
                case hw => rfl
                case hψ => rfl
                case hv => (intro wz hp; clear hp; go_simp; try (with_reducible rfl))
                simp only [Act.put, List.setIfInBounds_toArray, List.set_cons_zero, List.set_cons_succ]
                apply UpT.wpUp_pure
                case hw => rfl
                case hψ => rfl
                case hv => (intro wz hp; clear hp; go_simp; try (with_reducible rfl))
                simp only [Act.put, List.setIfInBounds_toArray, List.set_cons_zero, List.set_cons_succ]
                apply UpT.wpUp_pure
                case hw => rfl
                case hψ => rfl
                case hv => (intro wz hp; clear hp; go_simp; try (with_reducible rfl))
                simp only [Act.put, List.setIfInBounds_toArray, List.set_cons_zero, List.set_cons_succ]
                apply UpT.wpUp_pure
                case hw => rfl
                case hψ => rfl
                case hv => (intro wz hp; clear hp; go_simp; try (with_reducible rfl))
                simp only [Act.put, List.setIfInBounds_toArray, List.set_cons_zero, List.set_cons_succ]
                apply UpT.wpUp_pure
                case hw => rfl
                case hψ => rfl
                case hv => (intro wz hp; clear hp; go_simp; try (with_reducible rfl))
                simp only [Act.put, List.setIfInBounds_toArray, List.set_cons_zero, List.set_cons_succ]
                apply UpT.wpUp_pure
                case hw => rfl
                case hψ => rfl
                case hv => (intro wz hp; clear hp; go_simp; try (with_reducible rfl))
                simp only [Act.put, List.setIfInBounds_toArray, List.set_cons_zero, List.set_cons_succ]
                apply UpT.wpUp_pure
                case hw => rfl
                case hψ => rfl
                case hv => (intro wz hp; clear hp; go_simp; try (with_reducible rfl))
                simp only [Act.put, List.setIfInBounds_toArray, List.set_cons_zero, List.set_cons_succ]
                refine UpT.wpUp_call _ 30 #[.pointer (some ⟨p, 0, none⟩)] (by rfl) (by rfl) (by rfl) (fun wz => by go_simp) (fun wz hp => hdump wz hp.1) ?_
                rintro v ⟨u, _, hf⟩
                obtain ⟨ad, cd, rfl, _⟩ := hf.of 21 v _ rfl rfl
                clear hf
                simp only [Act.put, List.setIfInBounds_toArray, List.set_cons_zero, List.set_cons_succ]
                apply UpT.wpUp_pure
                case hw => rfl
                case hψ => rfl
                case hv => (intro wz hp; have hq3 := HCN.out _ _ _ (hp.2 21 _ _ rfl rfl rfl); clear hp; go_simp; try (with_reducible rfl))
                simp only [Act.put, List.setIfInBounds_toArray, List.set_cons_zero, List.set_cons_succ]
                refine UpT.wpUp_pure (.agg cs4.toArray) (by rfl) (by rfl) (fun wz hp => exec_load7 (by rfl) (by rfl) (hl7 wz hp.1)) ?_
                simp only [Act.put, List.setIfInBounds_toArray, List.set_cons_zero, List.set_cons_succ]
                refine UpT.wpUp_call _ 31 #[.agg cs4.toArray] (by rfl) (by rfl) (by rfl) (fun wz => by go_simp) (fun wz hp => hrdump wz hp.1) ?_
                rintro v ⟨u, _, hf⟩
                obtain ⟨ae, ce, rfl, _⟩ := hf.of 24 v _ rfl rfl
                clear hf
                simp only [Act.put, List.setIfInBounds_toArray, List.set_cons_zero, List.set_cons_succ]
                apply UpT.wpUp_pure
                case hw => rfl
                case hψ => rfl
                case hv => (intro wz hp; have hq3 := HCN.out _ _ _ (hp.2 24 _ _ rfl rfl rfl); clear hp; go_simp; try (with_reducible rfl))
                simp only [Act.put, List.setIfInBounds_toArray, List.set_cons_zero, List.set_cons_succ]
                apply UpT.wpUp_pure
                case hw => rfl
                case hψ => rfl
                case hv => (intro wz hp; clear hp; go_simp; try (with_reducible rfl))
                simp only [Act.put, List.setIfInBounds_toArray, List.set_cons_zero, List.set_cons_succ]
                refine UpT.wpUp_end ?_
                intro wy hby hf
                clear hf
                simp only [List.drop_succ_cons, List.drop_zero]
                have hPy := hPx.stays hby
                go_wp2
                exact ⟨⟨k + 1, _, _, _, _, by omega, by go_num, hPy.pair, hPy.mb, hPy.fm, hPy.gm, HLAST.out, hPy.bel⟩, by simp [intOf]; omega⟩
      · have hd2 : decide ((k : Int) < 12) = false := by simp; omega
        have halv := lalive_run _ (hV.stays hbr)
        go_wp2_with (first
          | (go_at_call 8; go_must (refine halv.mono ?_); rintro e wE ⟨rfl, hbE⟩))
        go_ret
        exact ⟨rfl, below_then hbr hbE⟩
    · have hd1 : decide ((k : Int) < (N : Int)) = false := by simp; omega
      have halv := lalive_run _ (hV.stays hbr)
      go_wp2_with (first
        | (go_at_call 8; go_must (refine halv.mono ?_); rintro e wE ⟨rfl, hbE⟩))
      go_ret
      exact ⟨rfl, below_then hbr hbE⟩

end Go.Proofs.YthbcphalokoknaaDoor
