/-
  TreeWalk: behind any edits the walk tells each pointer once: the statement's walk.
-/
import Derived.Test.YtcfjkkjjcljaoaaDoorG41
import Derived.Test.YtcfjkkjjcljaoaaDoorG42
namespace Go.Proofs.YtcfjkkjjcljaoaaDoor
set_option linter.unusedSimpArgs false
set_option linter.unusedVariables false
set_option maxRecDepth 100000
open Go.RowKit

theorem build_plain (w : World) : (Instr.build 65 #[]).run Tryd.prog w = .ok (.agg (plV (List.replicate 16 [])).toArray) w := by kernel_rfl
theorem ix_edits (b off n c : Nat) {i : Nat} (hi : i < n) (u : World) : (Instr.indexAt 62 (.slice (some ⟨b, off, none⟩) n c) (.int .i64 (i : Int))).run Tryd.prog u = .ok (.pointer (some ⟨b, off + i * 3, none⟩)) u :=
  index_slice 62 68 3 Tryd.underlying62 (by kernel_rfl) (by kernel_rfl) b off n c .i64 i hi u

theorem vs_birth {p : Pt} (h : p.ok) : p.vs[32]? = some (.int .u32 (p.b : Int)) := by
  have := h.len
  simp [Pt.vs, List.getElem?_append_right, this]
theorem wp_load_cells_g {P : Program} {w : World} {ops : Array Oper} {rest : List Oper} {o : Oper} {a : Act} {Q : Exit → Act → World → Prop} {x : Operand} {t : TypeId} {b off n : Nat} {us : List Value} (hw : Region.wanted o (yielded ops a.tmps) = true) (ho : o.op = Op.load t x) (hx : a.eval x = .pointer (some ⟨b, off, none⟩)) (hT : Ty P t n)
    (hc : ∀ j, j < n → w.cell? ⟨b, off + j, none⟩ = us[j]?) (hl : us.length = n) (hk : wpList P ops Q rest (a.put o.dst (.agg us.toArray)) w) : wpList P ops Q (o :: rest) a w := by
  refine wpList_step fun K hK => ?_
  rw [if_pos hw]
  have hr := run_load_cells (P := P) hT.1 hT.2 hc hl
  unfold Oper.wp execOp
  simp only [ho, hx, Sem.run_bind, Sem.run_pure, Result.andThen_ok, hr]
  exact hK _ _ hk

set_option maxHeartbeats 40000000 in
theorem tw_walk (a : Option Addr) (c : Nat) (xs : List EdT) (w : World) (hV : Vars w) (hP : Eds w a xs) (hn : xs.length ≤ 9223372036854775807) : Calls Tryd.prog 6 #[.slice a xs.length c] w fun e w' => e = .returned (.bool true) ∧ Below w.heap.size w w' := by
  have hfr : Calls Tryd.prog 19 #[.int .i64 128] w _ := fresh9_run 128 (by omega) (by omega) w
  obtain ⟨zb, hab, hzb⟩ := al_rbank
  have hzv := vals_ptr Pt.zero_ok
  have hpv0 := al_plain.2
  obtain ⟨N, hN⟩ : ∃ N, N = xs.length := ⟨_, rfl⟩
  have HN : Hid (N = xs.length) := hN
  rw [← hN] at hn ⊢
  clear hN
  go_enter Tryd.func6, Tryd.ntmps6
  go_wp2_with (first
    | (go_at_call 19; go_must (refine hfr.mono ?_); rintro e wF ⟨k, p, g, bv, rfl, ⟨vs, rfl, hbv⟩, hK⟩; have hs := BI.start hK; clear hK)
    | (refine sep_alloc hs rfl rfl ⟨hab, hzb⟩ ?_; clear hs; intro w1 gA hs)
    | (refine sep_alloc hs rfl rfl al_ptr ?_; clear hs; intro w1 gP hs)
    | (refine sep_alloc hs rfl rfl al_plain ?_; clear hs; intro w1 gL hs)
    | (refine sep_storew hs rfl rfl (by rfl) (by rfl) (by repeat (first | exact Upd.head | apply Upd.tail)) (by first | exact ty_ptr | exact ty_plain | exact ty_rbank) (by assumption) ?_; clear hs; intro w1 hs)
    | (refine wpList_build0 (by rfl) 42 (by rfl) _ build_ptr0 ?_)
    | (refine wpList_build0 (by rfl) 65 (by rfl) _ build_plain ?_))
  have hst : Hid (Good 128 4 (DS.new 128) ∧ Vol (DS.new 128) 4 Pt.zero zeros4 (fun _ => zeros4) (List.replicate 16 []) ∧ 4 ≤ 4 + 5 * 0) := ⟨Good.new (by omega) (by omega), Vol.new _ _, by omega⟩
  clear hfr hab hzb
  go_loopw [8] (fun x wr => ∃ (i kk : Nat) (S : DS) (q : Pt) (ns : List Pt) (cs : Nat → List Pt) (pl : List (List Int)), x = .int .i64 (i : Int) ∧ i ≤ 12 ∧ i ≤ N ∧ Sep wF.heap.size (BI w (fun _ => False) wF k p g S (lab 128 kk) 7) wr [⟨gL, 65, 16, plV pl⟩, ⟨gP, 42, 35, q.vs⟩, ⟨gA, 36, 7, vs⟩] [] ∧ Hid (Good 128 kk S ∧ Vol S kk q ns cs pl ∧ kk ≤ 4 + 5 * i)) (fun x _ => 12 - (intOf x).toNat)
  case atStart => exact ⟨0, 4, _, _, _, _, _, rfl, by omega, by omega, hs, hst⟩
  case round =>
    clear hs hst hbv
    rename_i wr hrel
    obtain ⟨i, kk, S, q, ns, cs, pl, rfl, hi12, hiN, hs, hH⟩ := hrel
    by_cases hlt : i < 12 ∧ i < N
    · obtain ⟨hl1, hl2⟩ := hlt
      obtain ⟨b, off, rfl, hc, hok⟩ := hP.at (i := i) (by rw [← HN.out]; exact hl2)
      have hix := fun u => ix_edits b off N c hl2 u
      obtain ⟨y, hy⟩ : ∃ y, y = xs.getD i default := ⟨_, rfl⟩
      rw [← hy] at hc hok
      clear hy
      have hbel := hs.done.1.bel
      have hc1 : wr.cell? ⟨b, off + i * 3 + 1, none⟩ = some (.slice y.ba y.bs.length y.bc) := (hbel.cell (World.block_lt_of_cell? w _ (hc 1 (by omega)))).trans (hc 1 (by omega))
      obtain ⟨nb, hnb⟩ : ∃ nb, nb = y.bs.length := ⟨_, rfl⟩
      have HNB : Hid (nb = y.bs.length) := hnb
      rw [← hnb] at hc1
      have h12 : (i : Int) < 12 := by omega
      have hiN' : (i : Int) < (N : Int) := by omega
      by_cases hb : nb ≤ 256
      · have hb' : (nb : Int) ≤ 256 := by omega
        have hap : ∀ u M', BS w u M' k p g S (lab 128 kk) 7 → Calls Tryd.prog 20 #[.pointer (some ⟨k, 0, none⟩), .agg q.vs.toArray, .agg (plV pl).toArray, .agg (edV y.cell y.ba nb y.bc y.trim).toArray] u fun e w' => ∃ root pl' code, e = .returned (.tuple #[.agg root.vs.toArray, .agg (plV pl').toArray, .int .i64 code]) ∧ ApplyOf w u M' k p g S 128 kk cs y.cell root pl' code w' := fun u M' h1 => by
          rw [hnb]
          exact apply_run h1 hV hH.out.1 hH.out.2.1 y.cell y.trim hok.bs (by omega) (by have := hH.out.2.2; omega)
        have hle : ∀ u, Below wr.heap.size wr u → (Instr.loadAt 68 (.pointer (some ⟨b, off + i * 3, none⟩))).run Tryd.prog u = .ok (.agg (edV y.cell y.ba nb y.bc y.trim).toArray) u := fun u hu => by
          refine run_load_cells ty_edit.1 ty_edit.2 (fun j hj => ?_) rfl
          rw [hnb]
          obtain ⟨v, hv⟩ : ∃ v, y.cells[j]? = some v := ⟨_, List.getElem?_eq_getElem (show j < 3 from hj)⟩
          have h1 := (hc j hj).trans hv
          exact (((below_then hbel hu).cell (World.block_lt_of_cell? w _ h1)).trans h1).trans hv.symm
        obtain ⟨qv, hqve⟩ : ∃ qv, qv = q.vs := ⟨_, rfl⟩
        obtain ⟨pv, hpve⟩ : ∃ pv, pv = plV pl := ⟨_, rfl⟩
        obtain ⟨ev, heve⟩ : ∃ ev, ev = edV y.cell y.ba nb y.bc y.trim := ⟨_, rfl⟩
        rw [← hqve, ← hpve] at hs hap
        rw [← heve] at hap hle
        have HC : Hid _ := hc
        clear hnb hqve hpve heve hbel hc hok
        go_wp2
        refine UpT.wp_region_seq 7 [7, 8, 9, 10, 11, 12, 13] (UpT.tell []) (fun _ => false) (by kernel_rfl) (by kernel_rfl) (UpT.tell_steady _ (fun p hp => by cases hp)) ?_
        simp only [List.take_succ_cons, List.take_zero]
        iterate 1 (apply UpT.wpUp_pure; (case hw => rfl); (case hψ => rfl); (case hv => (intro wz hp; clear hp; go_simp; try (with_reducible rfl))); simp only [Act.put, List.setIfInBounds_toArray, List.set_cons_zero, List.set_cons_succ])
        refine UpT.wpUp_pure (.agg qv.toArray) (by rfl) (by rfl) (fun wz hp => exec_load (by rfl) (by rfl) (hs.ld hp.1 ty_ptr (by repeat (first | exact List.Mem.head _ | apply List.Mem.tail)))) ?_
        simp only [Act.put, List.setIfInBounds_toArray, List.set_cons_zero, List.set_cons_succ]
        refine UpT.wpUp_pure (.agg pv.toArray) (by rfl) (by rfl) (fun wz hp => exec_load (by rfl) (by rfl) (hs.ld hp.1 ty_plain (by repeat (first | exact List.Mem.head _ | apply List.Mem.tail)))) ?_
        simp only [Act.put, List.setIfInBounds_toArray, List.set_cons_zero, List.set_cons_succ]
        iterate 3 (apply UpT.wpUp_pure; (case hw => rfl); (case hψ => rfl); (case hv => (intro wz hp; clear hp; go_simp; try (with_reducible rfl))); simp only [Act.put, List.setIfInBounds_toArray, List.set_cons_zero, List.set_cons_succ])
        refine UpT.wpUp_pure (.agg ev.toArray) (by rfl) (by rfl) (fun wz hp => exec_load (by rfl) (by rfl) (hle wz hp.1)) ?_
        simp only [Act.put, List.setIfInBounds_toArray, List.set_cons_zero, List.set_cons_succ]
        refine UpT.wpUp_end ?_
        intro w2 hb2 hf
        simp only [UpT.opsAt, List.filterMap_cons, List.filterMap_nil, List.getElem?_toArray, List.getElem?_cons_zero, List.getElem?_cons_succ]
        replace hs := hs.stays hb2
        clear hf hb2
        go_wp2_with (first
          | (go_at_call 20; go_must (refine (hap _ _ hs.bank).mono ?_); rintro e w1 ⟨root, pl2, code, rfl, S2, k2, ns2, cs2, h1, h2, hg2, hA⟩; replace hs := hs.turn h1 h2; have hrv := vals_ptr (hA.vol.root.ok hg2.klt); have hplv := vals_pl hA.vol.len; have HA : Hid _ := hA; have HG2 : Hid _ := hg2; clear h1 h2 hA hg2; dsimp only []; apply_assumption; refine wp_move1 rfl rfl (by rfl) ?_; simp only [Act.put, List.setIfInBounds_toArray, List.set_cons_zero, List.set_cons_succ]; refine wp_extract1 rfl rfl (by rfl) (by rfl) ?_; simp only [Act.put, List.setIfInBounds_toArray, List.set_cons_zero, List.set_cons_succ]; refine wp_extract1 rfl rfl (by rfl) (by rfl) ?_; simp only [Act.put, List.setIfInBounds_toArray, List.set_cons_zero, List.set_cons_succ]; refine wp_extract1 rfl rfl (by rfl) (by rfl) ?_; simp only [Act.put, List.setIfInBounds_toArray, List.set_cons_zero, List.set_cons_succ]; refine sep_storew hs rfl rfl (by rfl) (by rfl) (by repeat (first | exact Upd.head | apply Upd.tail)) ty_ptr hrv ?_; clear hs; intro w1 hs; simp only [Act.put, List.setIfInBounds_toArray, List.set_cons_zero, List.set_cons_succ]; refine sep_storew hs rfl rfl (by rfl) (by rfl) (by repeat (first | exact Upd.head | apply Upd.tail)) ty_plain hplv ?_; clear hs; intro w1 hs; go_wp2))
        dsimp only [midQ]
        go_wp2
        go_roundw
        case rel =>
          refine ⟨i + 1, k2, S2, root, ns2, cs2, pl2, by go_num, by omega, by omega, hs, ?_⟩
          exact ⟨HG2.out, Applied.vol HA.out, by have := Applied.small HA.out; have := hH.out.2.2; omega⟩
        case measure => simp [intOf]; omega
      · have hb' : ¬ (nb : Int) ≤ 256 := by omega
        clear hnb hbel hc hok
        go_wp2
        go_roundw
        case rel => exact ⟨i + 1, kk, S, q, ns, cs, pl, by go_num, by omega, by omega, hs, hH.out.1, hH.out.2.1, by have := hH.out.2.2; omega⟩
        case measure => simp [intOf]; omega
    · obtain ⟨kk0, hkk0⟩ : ∃ x, x = kk := ⟨_, rfl⟩
      have hpvl := hH.out.2.1.len
      have HPA : Hid (∀ j, j < 16 → (plV pl)[j]? = some (.string (strOfNums (pl.getD j [])))) := fun j hj => plV_at hpvl hj
      have HSZ : Hid (∀ j, j < 16 → (strOfNums (pl.getD j [])).size ≤ 256) := fun j hj => by
        rw [strOfNums_size]
        rcases hH.out.2.1.cell j hj with ⟨_, h1⟩ | h1
        · rw [h1]; simp
        · rw [h1.len]; omega
      have hcond : ¬ ((i : Int) < 12 ∧ (i : Int) < (N : Int)) := by omega
      have hcond2 : (¬ (i : Int) < (N : Int)) ∨ ((i : Int) < (N : Int) ∧ ¬ (i : Int) < 12) := by omega
      obtain ⟨pv, hpve⟩ : ∃ pv, pv = plV pl := ⟨_, rfl⟩
      rw [← hpve] at hs HPA
      clear hpve hkk0 kk0 hpvl hlt
      have hgo : Sep wF.heap.size (BI w (fun _ => False) wF k p g S (lab 128 kk) 7) wr [⟨gL, 65, 16, pv⟩, ⟨gP, 42, 35, q.vs⟩, ⟨gA, 36, 7, vs⟩] [] := hs
      rcases hcond2 with hcond2 | ⟨hcond2, hcond3⟩
      all_goals
        clear hcond
        go_wp2
        go_loopw [9, 10, 11] (fun x9 x10 x wl => ∃ j : Nat, x = .int .i64 (j : Int) ∧ x9 = .int .i64 (cnt (e1 pl) j : Int) ∧ x10 = .int .i64 (cnt (e4 pl) j : Int) ∧ j ≤ 16 ∧ Sep wF.heap.size (BI w (fun _ => False) wF k p g S (lab 128 kk) 7) wl [⟨gL, 65, 16, pv⟩, ⟨gP, 42, 35, q.vs⟩, ⟨gA, 36, 7, vs⟩] []) (fun _ _ x _ => 16 - (intOf x).toNat)
        case atStart => exact ⟨0, rfl, rfl, rfl, by omega, hs⟩
        case round =>
          clear hs hgo hcond2
          try clear hcond3
          rename_i wl hrel
          obtain ⟨j, rfl, rfl, rfl, hj16, hs⟩ := hrel
          by_cases hj : j < 16
          · have hj' : (j : Int) < 16 := by omega
            have hf1 := cnt_le (e1_le pl) j
            have hf4 := cnt_le (e4_le pl) j
            have hx := fun u => ix_plain gL hj u
            have hat := HPA.out j hj
            obtain ⟨A, hA⟩ : ∃ A, A = strOfNums (pl.getD j []) := ⟨_, rfl⟩
            rw [← hA] at hat
            have HE1 : Hid (cnt (e1 pl) (j + 1) = cnt (e1 pl) j + e1 pl j) := rfl
            have HE4 : Hid (cnt (e4 pl) (j + 1) = cnt (e4 pl) j + e4 pl j) := rfl
            obtain ⟨C1, hC1⟩ : ∃ C1, C1 = cnt (e1 pl) j := ⟨_, rfl⟩
            obtain ⟨C4, hC4⟩ : ∃ C4, C4 = cnt (e4 pl) j := ⟨_, rfl⟩
            rw [← hC1] at hf1 HE1 ⊢
            rw [← hC4] at hf4 HE4 ⊢
            obtain ⟨E, tb, hq0, HV1, hE⟩ : ∃ (E : Nat) (tb : Bool), (A.toList == []) = tb ∧ Hid (cnt (e1 pl) (j + 1) = C1 + E) ∧ ((E = 0 ∧ tb = true) ∨ (E = 1 ∧ tb = false)) := by
              by_cases h0 : pl.getD j [] = []
              · exact ⟨0, true, by rw [hA]; exact str_none h0, by show _ = _; rw [HE1.out]; unfold e1; rw [if_pos h0], .inl ⟨rfl, rfl⟩⟩
              · exact ⟨1, false, by rw [hA]; exact str_some h0, by show _ = _; rw [HE1.out]; unfold e1; rw [if_neg h0], .inr ⟨rfl, rfl⟩⟩
            clear hC1 hC4 hA
            rcases hE with ⟨rfl, rfl⟩ | ⟨rfl, rfl⟩
            all_goals
              go_wp2_with (refine sep_load1 hs rfl rfl (by rfl) (by repeat (first | exact List.Mem.head _ | apply List.Mem.tail)) ty1_str hat ?_)
              clear hq0
              by_cases h3 : j % 4 = 3
              · have HJ : j = 3 ∨ j = 7 ∨ j = 11 ∨ j = 15 := by omega
                obtain ⟨E', tb, hX, HV4, hE⟩ : ∃ (E : Nat) (tb : Bool), ((strOfNums (pl.getD j [] ++ pl.getD (j - 1) [] ++ pl.getD (j - 2) [] ++ pl.getD (j - 3) [])).toList == []) = tb ∧ Hid (cnt (e4 pl) (j + 1) = C4 + E) ∧ ((E = 0 ∧ tb = true) ∨ (E = 1 ∧ tb = false)) := by
                  by_cases h4 : pl.getD j [] = [] ∧ pl.getD (j - 1) [] = [] ∧ pl.getD (j - 2) [] = [] ∧ pl.getD (j - 3) [] = []
                  · exact ⟨0, true, str_none (by rw [h4.1, h4.2.1, h4.2.2.1, h4.2.2.2]; rfl), by show _ = _; rw [HE4.out]; unfold e4; rw [if_neg (fun h => h.2 h4)], .inl ⟨rfl, rfl⟩⟩
                  · exact ⟨1, false, str_some (fun h => h4 (by simp only [List.append_eq_nil_iff] at h; exact ⟨h.1.1.1, h.1.1.2, h.1.2, h.2⟩)), by show _ = _; rw [HE4.out]; unfold e4; rw [if_pos ⟨h3, h4⟩], .inr ⟨rfl, rfl⟩⟩
                rw [← str_app, ← str_app, ← str_app] at hX
                have hx0 := fun u => ix_plain gL (i := j) (by omega) u
                have hx1 := fun u => ix_plain gL (i := j - 1) (by omega) u
                have hx2 := fun u => ix_plain gL (i := j - 2) (by omega) u
                have hx3 := fun u => ix_plain gL (i := j - 3) (by omega) u
                have hw1 : IntKind.i64.wrap ((j - 1 : Nat) : Int) = ((j - 1 : Nat) : Int) := by rw [IntKind.wrap_i64]; omega
                have hw2 : IntKind.i64.wrap ((j - 2 : Nat) : Int) = ((j - 2 : Nat) : Int) := by rw [IntKind.wrap_i64]; omega
                have hw3 : IntKind.i64.wrap ((j - 3 : Nat) : Int) = ((j - 3 : Nat) : Int) := by rw [IntKind.wrap_i64]; omega
                have ha0 := HPA.out j (by omega)
                have ha1 := HPA.out (j - 1) (by omega)
                have ha2 := HPA.out (j - 2) (by omega)
                have ha3 := HPA.out (j - 3) (by omega)
                have hz0 := HSZ.out j (by omega)
                have hz1 := HSZ.out (j - 1) (by omega)
                have hz2 := HSZ.out (j - 2) (by omega)
                have hz3 := HSZ.out (j - 3) (by omega)
                obtain ⟨A0, hA0⟩ : ∃ A, A = strOfNums (pl.getD j []) := ⟨_, rfl⟩
                obtain ⟨A1, hA1⟩ : ∃ A, A = strOfNums (pl.getD (j - 1) []) := ⟨_, rfl⟩
                obtain ⟨A2, hA2⟩ : ∃ A, A = strOfNums (pl.getD (j - 2) []) := ⟨_, rfl⟩
                obtain ⟨A3, hA3⟩ : ∃ A, A = strOfNums (pl.getD (j - 3) []) := ⟨_, rfl⟩
                rw [← hA0] at ha0 hz0
                rw [← hA1] at ha1 hz1
                rw [← hA2] at ha2 hz2
                rw [← hA3] at ha3 hz3
                rw [← hA0, ← hA1, ← hA2, ← hA3] at hX
                have z1 : ¬ (9223372036854775807 < A0.size + A1.size) := by omega
                obtain ⟨S1, hS1⟩ : ∃ S, S = A0 ++ A1 := ⟨_, rfl⟩
                have n1 : S1.size ≤ 512 := by rw [hS1, ByteArray.size_append]; omega
                have z2 : ¬ (9223372036854775807 < S1.size + A2.size) := by omega
                obtain ⟨S2, hS2⟩ : ∃ S, S = S1 ++ A2 := ⟨_, rfl⟩
                have n2 : S2.size ≤ 1024 := by rw [hS2, ByteArray.size_append]; omega
                have z3 : ¬ (9223372036854775807 < S2.size + A3.size) := by omega
                obtain ⟨S3, hS3⟩ : ∃ S, S = S2 ++ A3 := ⟨_, rfl⟩
                rw [← hS1, ← hS2, ← hS3] at hX
                have hS1' := hS1.symm
                have hS2' := hS2.symm
                have hS3' := hS3.symm
                clear hA0 hA1 hA2 hA3 hS1 hS2 hS3 hz0 hz1 hz2 hz3 h3 hx hat
                rcases HJ with rfl | rfl | rfl | rfl <;> rcases hE with ⟨rfl, rfl⟩ | ⟨rfl, rfl⟩
                all_goals
                  simp only [Nat.reduceSub, Int.cast_ofNat_Int] at hx0 hx1 hx2 hx3 ha0 ha1 ha2 ha3 hw1 hw2 hw3
                  refine UpT.wp_region_tail 23 (UpT.tell []) (fun _ => false) (by kernel_rfl) (by kernel_rfl) (UpT.tell_steady _ (fun p hp => by cases hp)) ?_
                  simp only [List.take_succ_cons, List.take_zero]
                  iterate 6 (apply UpT.wpUp_pure; (case hw => rfl); (case hψ => rfl); (case hv => (intro wz hp; clear hp; go_simp; try (with_reducible rfl))); simp only [Act.put, List.setIfInBounds_toArray, List.set_cons_zero, List.set_cons_succ])
                  refine UpT.wpUp_pure (.string A0) (by rfl) (by rfl) (fun wz hp => exec_load (by rfl) (by rfl) (hs.ld1 hp.1 ty1_str (by repeat (first | exact List.Mem.head _ | apply List.Mem.tail)) ha0)) ?_
                  simp only [Act.put, List.setIfInBounds_toArray, List.set_cons_zero, List.set_cons_succ]
                  iterate 3 (apply UpT.wpUp_pure; (case hw => rfl); (case hψ => rfl); (case hv => (intro wz hp; clear hp; go_simp; try (with_reducible rfl))); simp only [Act.put, List.setIfInBounds_toArray, List.set_cons_zero, List.set_cons_succ])
                  refine UpT.wpUp_pure (.string A1) (by rfl) (by rfl) (fun wz hp => exec_load (by rfl) (by rfl) (hs.ld1 hp.1 ty1_str (by repeat (first | exact List.Mem.head _ | apply List.Mem.tail)) ha1)) ?_
                  simp only [Act.put, List.setIfInBounds_toArray, List.set_cons_zero, List.set_cons_succ]
                  iterate 4 (apply UpT.wpUp_pure; (case hw => rfl); (case hψ => rfl); (case hv => (intro wz hp; clear hp; go_simp; try (with_reducible rfl))); simp only [Act.put, List.setIfInBounds_toArray, List.set_cons_zero, List.set_cons_succ])
                  refine UpT.wpUp_pure (.string A2) (by rfl) (by rfl) (fun wz hp => exec_load (by rfl) (by rfl) (hs.ld1 hp.1 ty1_str (by repeat (first | exact List.Mem.head _ | apply List.Mem.tail)) ha2)) ?_
                  simp only [Act.put, List.setIfInBounds_toArray, List.set_cons_zero, List.set_cons_succ]
                  iterate 4 (apply UpT.wpUp_pure; (case hw => rfl); (case hψ => rfl); (case hv => (intro wz hp; clear hp; go_simp; try (with_reducible rfl))); simp only [Act.put, List.setIfInBounds_toArray, List.set_cons_zero, List.set_cons_succ])
                  refine UpT.wpUp_pure (.string A3) (by rfl) (by rfl) (fun wz hp => exec_load (by rfl) (by rfl) (hs.ld1 hp.1 ty1_str (by repeat (first | exact List.Mem.head _ | apply List.Mem.tail)) ha3)) ?_
                  simp only [Act.put, List.setIfInBounds_toArray, List.set_cons_zero, List.set_cons_succ]
                  iterate 2 (apply UpT.wpUp_pure; (case hw => rfl); (case hψ => rfl); (case hv => (intro wz hp; clear hp; go_simp; try (with_reducible rfl))); simp only [Act.put, List.setIfInBounds_toArray, List.set_cons_zero, List.set_cons_succ])
                  refine UpT.wpUp_end ?_
                  intro w2' hb2' hf
                  simp only [List.drop_succ_cons, List.drop_zero]
                  replace hs := hs.stays hb2'
                  clear hf hb2' hS1' hS2' hS3' z1 z2 z3 n1 n2 ha0 ha1 ha2 ha3 hx0 hx1 hx2 hx3 hw1 hw2 hw3
                  go_wp2
                  go_roundw
                  case rel => first | exact ⟨3 + 1, by first | rfl | go_num, by rw [HV1.out]; first | rfl | go_num, by rw [HV4.out]; first | rfl | go_num, by omega, hs⟩ | exact ⟨7 + 1, by first | rfl | go_num, by rw [HV1.out]; first | rfl | go_num, by rw [HV4.out]; first | rfl | go_num, by omega, hs⟩ | exact ⟨11 + 1, by first | rfl | go_num, by rw [HV1.out]; first | rfl | go_num, by rw [HV4.out]; first | rfl | go_num, by omega, hs⟩ | exact ⟨15 + 1, by first | rfl | go_num, by rw [HV1.out]; first | rfl | go_num, by rw [HV4.out]; first | rfl | go_num, by omega, hs⟩
                  case measure => first | (simp [intOf]; done) | (simp [intOf]; omega)
              · have HV4 : Hid (cnt (e4 pl) (j + 1) = C4 + 0) := by show _ = _; rw [HE4.out]; unfold e4; rw [if_neg (fun h => h3 h.1)]
                have hmod : Int.tmod (j : Int) 4 = ((j % 4 : Nat) : Int) := by rw [Int.tmod_eq_emod_of_nonneg (by omega)]; omega
                have hm3 : ¬ (((j % 4 : Nat) : Int) = 3) := by omega
                have hm3n : ¬ (j % 4 = 3) := by omega
                obtain ⟨m, hm⟩ : ∃ m, m = j % 4 := ⟨_, rfl⟩
                rw [← hm] at hmod hm3 hm3n
                clear hx hat h3 hm
                refine UpT.wp_region_tail 23 (UpT.tell []) (fun _ => false) (by kernel_rfl) (by kernel_rfl) (UpT.tell_steady _ (fun p hp => by cases hp)) ?_
                simp only [List.take_succ_cons, List.take_zero]
                iterate 2 (apply UpT.wpUp_pure; (case hw => rfl); (case hψ => rfl); (case hv => (intro wz hp; clear hp; go_simp; try (with_reducible rfl))); simp only [Act.put, List.setIfInBounds_toArray, List.set_cons_zero, List.set_cons_succ])
                refine UpT.wpUp_pure (.bool false) (by rfl) (by rfl) (fun wz hp => by clear hp; go_simp) ?_
                simp only [Act.put, List.setIfInBounds_toArray, List.set_cons_zero, List.set_cons_succ]
                iterate 1 (apply UpT.wpUp_pure; (case hw => rfl); (case hψ => rfl); (case hv => (intro wz hp; clear hp; go_simp; try (with_reducible rfl))); simp only [Act.put, List.setIfInBounds_toArray, List.set_cons_zero, List.set_cons_succ])
                iterate 19 (refine UpT.wpUp_pass (by rfl) ?_; simp only [Act.put, List.setIfInBounds_toArray, List.set_cons_zero, List.set_cons_succ])
                refine UpT.wpUp_end ?_
                intro w2' hb2' hf
                simp only [List.drop_succ_cons, List.drop_zero]
                replace hs := hs.stays hb2'
                clear hf hb2' hmod hm3 hm3n
                go_wp2
                go_roundw
                case rel => exact ⟨j + 1, by first | rfl | go_num, by rw [HV1.out]; first | rfl | go_num, by rw [HV4.out]; first | rfl | go_num, by omega, hs⟩
                case measure => first | (simp [intOf]; done) | (simp [intOf]; omega)
          · have hj16' : j = 16 := by omega
            subst hj16'
            have hwk : ∀ u M', BS w u M' k p g S (lab 128 kk) 7 → Calls Tryd.prog 24 #[.pointer (some ⟨k, 0, none⟩), .agg q.vs.toArray] u fun e w' => WalkOf u w' e (walkL q ns cs) := fun u M' h1 => walk_run9 h1 hV hH.out.1 hH.out.2.1
            have hcount := walk_count hH.out.2.1
            have HALL : Hid (∀ p ∈ walkL q ns cs, p.ok ∧ p.b = 7 ∧ p.hole = false) := walk_all hH.out.2.1 hH.out.1.klt
            have hF := cnt_le (e1_le pl) 16
            have hG := cnt_le (e4_le pl) 16
            obtain ⟨F, hFe⟩ : ∃ F, F = cnt (e1 pl) 16 := ⟨_, rfl⟩
            obtain ⟨G, hGe⟩ : ∃ G, G = cnt (e4 pl) 16 := ⟨_, rfl⟩
            rw [← hFe, ← hGe] at hcount
            rw [← hFe] at hF ⊢
            rw [← hGe] at hG ⊢
            obtain ⟨W, hW⟩ : ∃ W, W = walkL q ns cs := ⟨_, rfl⟩
            rw [← hW] at hwk hcount HALL
            obtain ⟨WL, hWL⟩ : ∃ WL, WL = W.length := ⟨_, rfl⟩
            have HWL : Hid (WL = W.length) := hWL
            rw [← hWL] at hcount
            clear hW hFe hGe hj16 hj hWL
            by_cases hpos : F + G > 0
            · have HCT : Hid (WL = F + G + 1) := by show _ = _; rw [hcount, if_pos hpos]
              have hFG : ((0 : Int) < (F : Int) + (G : Int)) := by omega
              clear hcount hpos
              go_wp2_with (first
                | (refine sep_loadw hs rfl rfl (by rfl) (by repeat (first | exact List.Mem.head _ | apply List.Mem.tail)) ty_ptr ?_)
                | (go_at_call 24; go_must (refine (hwk _ _ hs.bank).mono ?_); rintro e w1 ⟨v1, rfl, hR, hb1⟩; replace hs := hs.stays hb1; obtain ⟨wa, wc, rfl⟩ : ∃ a c, v1 = .slice a W.length c := Rw.holds.form hR; have hPl : ∃ b0, Plist b0 w1 (.slice wa W.length wc) W := ⟨_, fun p hp => (HALL.out p hp).1, hR⟩; obtain ⟨b0, hPl⟩ := hPl; rw [← HWL.out] at hPl ⊢; clear hb1 hR))
              have hWLb : WL ≤ 40 := by have := HCT.out; omega
              go_loopw [15] (fun x wq => ∃ (j : Nat) (u : World), u = wq ∧ x = .int .i64 (j : Int) ∧ j ≤ WL ∧ Sep wF.heap.size (BI w (fun _ => False) wF k p g S (lab 128 kk) 7) u [⟨gL, 65, 16, pv⟩, ⟨gP, 42, 35, q.vs⟩, ⟨gA, 36, 7, vs⟩] [] ∧ Plist b0 u (.slice wa WL wc) W) (fun x _ => WL - (intOf x).toNat)
              case atStart => exact ⟨0, _, rfl, rfl, by omega, hs, hPl⟩
              case round =>
                clear hs hPl hwk
                rename_i hrel
                obtain ⟨j, u, rfl, rfl, hjl, hs, hPl⟩ := hrel
                by_cases hj : j < WL
                · obtain ⟨b, cc, hv, hrow, hcell, hok⟩ := hPl.at (i := j) (by rw [← HWL.out]; exact hj)
                  have hwa : wa = some ⟨b, 0, none⟩ := by injection hv
                  subst hwa
                  have hj' : (j : Int) < (WL : Int) := by omega
                  have hix := fun u => index_ptrs b WL wc j hj u
                  obtain ⟨P, hP⟩ : ∃ P, P = W.getD j default := ⟨_, rfl⟩
                  have hp7 := HALL.out P (by rw [hP]; have := HWL.out; simp [List.getD, show j < W.length by omega])
                  rw [← hP] at hcell
                  have hc32 : u.cell? ⟨b, j * 35 + 32, none⟩ = some (.int .u32 7) := by rw [hcell 32 (by omega), vs_birth hp7.1, hp7.2.1]; rfl
                  have heq : ∀ u, (Op.equalIn 10000 42 (.agg P.vs.toArray) (.agg Pt.zero.vs.toArray)).run Tryd.prog u = .ok false u := fun u => by rw [← hp7.2.2]; exact equal_ptr hp7.1 Pt.zero_ok 9997 u
                  have hpl := Pt.vs_len hp7.1
                  obtain ⟨vz, hvz⟩ : ∃ vz, vz = Pt.zero.vs := ⟨_, rfl⟩
                  have hbz : ∀ w, (Instr.build 42 #[]).run Tryd.prog w = .ok (.agg vz.toArray) w := by rw [hvz]; exact build_ptr0
                  rw [← hvz] at heq
                  obtain ⟨vp, hvp⟩ : ∃ vp, vp = P.vs := ⟨_, rfl⟩
                  rw [← hvp] at heq hcell hpl
                  clear hp7 hP hv hrow hok hvz hvp
                  go_wp2_with (first
                    | (refine wp_load_cells_g (by rfl) rfl (by rfl) ty_ptr hcell hpl ?_)
                    | (refine wpList_build0 (by rfl) 42 (by rfl) _ hbz ?_))
                  clear hc32 heq hix hcell hbz
                  go_roundw
                  case rel => exact ⟨j + 1, _, rfl, by go_num, by omega, hs, hPl⟩
                  case measure => simp [intOf]; omega
                · have hjw : j = WL := by omega
                  subst hjw
                  have hct : (j : Int) = (F : Int) + (G : Int) + 1 := by have := HCT.out; omega
                  clear hPl
                  go_wp2_with (go_at_call 22; go_must (refine (alive9_run _ (hs.bank.vars hV)).mono ?_); rintro e w1 ⟨rfl, hb1⟩; replace hs := hs.stays hb1; clear hb1)
                  go_ret
                  exact ⟨rfl, hs.done.1.bel⟩
            · have HCT : Hid (WL = 0) := by show _ = _; rw [hcount, if_neg hpos]
              have hFG : ¬ ((0 : Int) < (F : Int) + (G : Int)) := by omega
              clear hcount hpos
              go_wp2_with (first
                | (refine sep_loadw hs rfl rfl (by rfl) (by repeat (first | exact List.Mem.head _ | apply List.Mem.tail)) ty_ptr ?_)
                | (go_at_call 24; go_must (refine (hwk _ _ hs.bank).mono ?_); rintro e w1 ⟨v1, rfl, hR, hb1⟩; replace hs := hs.stays hb1; obtain ⟨wa, wc, rfl⟩ : ∃ a c, v1 = .slice a W.length c := Rw.holds.form hR; have hPl : ∃ b0, Plist b0 w1 (.slice wa W.length wc) W := ⟨_, fun p hp => (HALL.out p hp).1, hR⟩; obtain ⟨b0, hPl⟩ := hPl; rw [← HWL.out] at hPl ⊢; clear hb1 hR))
              have hWLb : WL ≤ 40 := by have := HCT.out; omega
              go_loopw [15] (fun x wq => ∃ (j : Nat) (u : World), u = wq ∧ x = .int .i64 (j : Int) ∧ j ≤ WL ∧ Sep wF.heap.size (BI w (fun _ => False) wF k p g S (lab 128 kk) 7) u [⟨gL, 65, 16, pv⟩, ⟨gP, 42, 35, q.vs⟩, ⟨gA, 36, 7, vs⟩] [] ∧ Plist b0 u (.slice wa WL wc) W) (fun x _ => WL - (intOf x).toNat)
              case atStart => exact ⟨0, _, rfl, rfl, by omega, hs, hPl⟩
              case round =>
                clear hs hPl hwk
                rename_i hrel
                obtain ⟨j, u, rfl, rfl, hjl, hs, hPl⟩ := hrel
                by_cases hj : j < WL
                · obtain ⟨b, cc, hv, hrow, hcell, hok⟩ := hPl.at (i := j) (by rw [← HWL.out]; exact hj)
                  have hwa : wa = some ⟨b, 0, none⟩ := by injection hv
                  subst hwa
                  have hj' : (j : Int) < (WL : Int) := by omega
                  have hix := fun u => index_ptrs b WL wc j hj u
                  obtain ⟨P, hP⟩ : ∃ P, P = W.getD j default := ⟨_, rfl⟩
                  have hp7 := HALL.out P (by rw [hP]; have := HWL.out; simp [List.getD, show j < W.length by omega])
                  rw [← hP] at hcell
                  have hc32 : u.cell? ⟨b, j * 35 + 32, none⟩ = some (.int .u32 7) := by rw [hcell 32 (by omega), vs_birth hp7.1, hp7.2.1]; rfl
                  have heq : ∀ u, (Op.equalIn 10000 42 (.agg P.vs.toArray) (.agg Pt.zero.vs.toArray)).run Tryd.prog u = .ok false u := fun u => by rw [← hp7.2.2]; exact equal_ptr hp7.1 Pt.zero_ok 9997 u
                  have hpl := Pt.vs_len hp7.1
                  obtain ⟨vz, hvz⟩ : ∃ vz, vz = Pt.zero.vs := ⟨_, rfl⟩
                  have hbz : ∀ w, (Instr.build 42 #[]).run Tryd.prog w = .ok (.agg vz.toArray) w := by rw [hvz]; exact build_ptr0
                  rw [← hvz] at heq
                  obtain ⟨vp, hvp⟩ : ∃ vp, vp = P.vs := ⟨_, rfl⟩
                  rw [← hvp] at heq hcell hpl
                  clear hp7 hP hv hrow hok hvz hvp
                  go_wp2_with (first
                    | (refine wp_load_cells_g (by rfl) rfl (by rfl) ty_ptr hcell hpl ?_)
                    | (refine wpList_build0 (by rfl) 42 (by rfl) _ hbz ?_))
                  clear hc32 heq hix hcell hbz
                  go_roundw
                  case rel => exact ⟨j + 1, _, rfl, by go_num, by omega, hs, hPl⟩
                  case measure => simp [intOf]; omega
                · have hjw : j = WL := by omega
                  subst hjw
                  have hct : (j : Int) = (F : Int) + (G : Int) := by have := HCT.out; omega
                  clear hPl
                  go_wp2_with (go_at_call 22; go_must (refine (alive9_run _ (hs.bank.vars hV)).mono ?_); rintro e w1 ⟨rfl, hb1⟩; replace hs := hs.stays hb1; clear hb1)
                  go_ret
                  exact ⟨rfl, hs.done.1.bel⟩

end Go.Proofs.YtcfjkkjjcljaoaaDoor
