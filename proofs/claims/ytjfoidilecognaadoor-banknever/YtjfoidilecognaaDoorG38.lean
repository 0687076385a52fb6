/-
  The walk of the law BankNever.
-/
import Derived.Test.YtjfoidilecognaaDoorG37
namespace Go.Proofs.YtjfoidilecognaaDoor
set_option linter.unusedSimpArgs false
set_option linter.unusedVariables false
set_option maxRecDepth 100000
open Go.RowKit

set_option maxHeartbeats 400000000 in
theorem never_walk (aa : Option Addr) (ac : Nat) (xs : List ActK) (p0 : Pt) (w : World) (hV : Vars w) (hA : ActsK w aa xs) (hp0 : p0.ok) :
    Calls Tryd.prog 4 #[.slice aa xs.length ac, .agg p0.vs.toArray] w fun e w' => e = .returned (.bool true) ∧ Below w.heap.size w w' := by
  have hal := fun u (hu : Vars u) => balive_run u hu
  have hfr := bs_fresh 32
  obtain ⟨n, hn⟩ : ∃ n, n = xs.length := ⟨_, rfl⟩
  rw [← hn]
  have HN : Hid (n = xs.length) := hn
  have HV : Hid (Vars w) := hV
  have HA : Hid (ActsK w aa xs) := hA
  have HP0 : Hid p0.ok := hp0
  have HALA : Hid (∀ w : World, (Instr.alloc 45 true (.tuple #[])).run Tryd.prog w = .ok (.pointer (some ⟨w.heap.size, 0, none⟩)) (w.alloc (.cells zeroActK.toArray 45))) := alloc_actK
  have HALT : Hid (∀ w : World, (Instr.alloc 49 true (.tuple #[])).run Tryd.prog w = .ok (.pointer (some ⟨w.heap.size, 0, none⟩)) (w.alloc (.cells Told.zero.vs.toArray 49))) := alloc_told
  have HALP : Hid (∀ w : World, (Instr.alloc 42 true (.tuple #[])).run Tryd.prog w = .ok (.pointer (some ⟨w.heap.size, 0, none⟩)) (w.alloc (.cells Pt.zero.vs.toArray 42))) := alloc_ptr0
  have HBUP : Hid (∀ w : World, (Instr.build 42 #[]).run Tryd.prog w = .ok (.agg Pt.zero.vs.toArray) w) := build_ptr0
  have hzal : zeroActK.length = 40 := zeroActK_len
  have hztl : Told.zero.vs.length = 40 := Told.vs_len Pt.zero_ok
  have hzpl : Pt.zero.vs.length = 35 := Pt.vs_len Pt.zero_ok
  obtain ⟨za, hza⟩ : ∃ za, za = zeroActK := ⟨_, rfl⟩
  obtain ⟨zt, hzt⟩ : ∃ zt, zt = Told.zero.vs := ⟨_, rfl⟩
  obtain ⟨zp, hzp⟩ : ∃ zp, zp = Pt.zero.vs := ⟨_, rfl⟩
  have HZP : Hid (zp = Pt.zero.vs) := hzp
  rw [← hza] at HALA hzal
  rw [← hzt] at HALT hztl
  rw [← hzp] at HALP HBUP hzpl
  obtain ⟨pv0, hpv0⟩ : ∃ pv0, pv0 = p0.vs := ⟨_, rfl⟩
  have HPV0 : Hid (pv0 = p0.vs) := hpv0
  have hpvl : pv0.length = 35 := by rw [hpv0]; exact Pt.vs_len hp0
  rw [← hpv0]
  clear hn hza hzt hzp hpv0 hV hA hp0
  go_enter Tryd.func4, Tryd.ntmps4
  go_wp2_with (first
    | ((with_reducible show wpList _ _ _ (Oper.mk _ (Op.box 42 _) _ _ _ _ :: _) _ _); refine wpList_box0 (by rfl) 42 (.tmp 1) (by rfl) pv0 (by rfl) ?_; intro w1 hL1 hb1 hs1; clear hs1)
    | (go_at_call 5; go_must (refine (hfr w1 (by omega) (by omega)).mono ?_); rintro e w2 ⟨k, p, g, rfl, hK2⟩
       have hL2 := hL1.stays (hK2.bel)
       clear hL1)
    | ((with_reducible show wpList _ _ _ (Oper.mk _ (Op.load 42 (.tmp 3)) _ _ _ _ :: _) _ _); refine wpList_load_blk (by rfl) (.tmp 3) 42 (by rfl) _ 0 35 (by rfl) agg_ptr size_ptr hL2 _ (whole_load hpvl) hpvl ?_)
    | ((with_reducible show wpList _ _ _ (Oper.mk _ (Op.buildSlice 38 1 _) _ _ _ _ :: _) _ _); refine wpList_onel (by rfl) (.tmp 21) (by rfl) (some 22) (by rfl) p0 HP0.out (by rw [← HPV0.out]; rfl) ?_; intro w3 b3 hb3e hP3 hb3 hs3))
  obtain ⟨v0, hv0⟩ : ∃ v0, v0 = Value.slice (some ⟨b3, 0, none⟩) 1 1 := ⟨_, rfl⟩
  have hv0' := hv0
  rw [← hv0] at hP3 ⊢
  have hK3 : BS w1 w3 (rowOf v0) k p g (DS.new 32) (lab 32 4) 7 := hK2.new hb3 (fun j hj => by
    rw [hv0'] at hj
    have hj' : b3 = j := by simpa [rowOf, Value.ownBlock] using hj
    have hjl := hP3.lt (by rw [hv0']; exact hj)
    exact .inr ⟨by omega, hjl.2⟩)
  have hP3' : Plist w1.heap.size w3 v0 [p0] := ⟨hP3.1, owns_mono hP3.2 (by have := hK2.bel.size; omega)⟩
  have HW1 : Hid (Below w.heap.size w w1) := hb1
  have HV1 : Hid (Vars w1) := HV.out.below hb1 HV.out.size
  have HA1 : Hid (ActsK w1 aa xs) := HA.out.stays hb1
  have HS0 : Hid ((DS.new 32).ws.length ≤ 8 * 0 ∧ [p0].length ≤ 0 + 1) := by show _ ∧ _; exact ⟨by decide, by simp⟩
  obtain ⟨S0, hS0⟩ : ∃ S0, S0 = DS.new 32 := ⟨_, rfl⟩
  obtain ⟨l0, hl0⟩ : ∃ l0, l0 = lab 32 4 := ⟨_, rfl⟩
  rw [← hS0] at hK3 HS0
  rw [← hl0] at hK3
  obtain ⟨ps0, hps0⟩ : ∃ ps0, ps0 = [p0] := ⟨_, rfl⟩
  rw [← hps0] at hP3' HS0
  clear hS0 hl0 hps0 hv0 hv0' hP3 hb3 hK2 hb3e hs3 hfr hL2 hb1 HV HA
  go_loopw [7, 8] (fun v x wr => ∃ (i : Nat) (S : DS) (l : List Bool) (ps : List Pt), x = .int .i64 i ∧ i ≤ 30 ∧ i ≤ n ∧ Plist w1.heap.size wr v ps ∧ BS w1 wr (rowOf v) k p g S l 7 ∧ Hid (S.ws.length ≤ 8 * i ∧ ps.length ≤ i + 1)) (fun _ x _ => 40 - (intOf x).toNat)
  case atStart => exact ⟨0, S0, l0, ps0, rfl, by omega, by omega, hP3', hK3, HS0⟩
  case round =>
    clear hP3' hK3 HS0 S0 l0 ps0
    rename_i wr hrel
    obtain ⟨i, S, l, ps, rfl, hi30, hin, hPr, hKr, HS⟩ := hrel
    by_cases hlt : i < n ∧ i < 30
    · obtain ⟨hlt, hlt3⟩ := hlt
      have hq1 : decide ((i : Int) < (n : Int)) = true := by simp; omega
      have hq2 : decide ((i : Int) < 30) = true := by simp; omega
      have hxok : ActKOk w1 (xs.getD i default) := HA1.out.ok _ (by have h := HN.out; rw [List.getD_eq_getElem?_getD, List.getElem?_eq_getElem (by omega)]; exact List.getElem_mem _)
      obtain ⟨b, off, haa, hcA, hjunk⟩ := (HA1.out.stays hKr.bel).at (i := i) (by rw [← HN.out]; exact hlt)
      clear hjunk
      subst haa
      obtain ⟨X, hX⟩ : ∃ X, X = xs.getD i default := ⟨_, rfl⟩
      rw [← hX] at hcA hxok
      have HXO : Hid (ActKOk w1 X) := hxok
      have hcs := ActK.cells_at hxok.p
      have hal40 : X.cells.length = 40 := ActK.cells_len hxok.p
      have halo := ActK.cells_one X
      have hxp : X.p.vs = (X.cells.drop 4).take 35 := ActK.cells_ptr hxok.p
      obtain ⟨av, hav⟩ : ∃ av, av = X.cells := ⟨_, rfl⟩
      have HAV : Hid (av = X.cells) := hav
      rw [← hav] at hcA hcs hal40 halo hxp
      obtain ⟨nb, hnb⟩ : ∃ nb, nb = X.bs.length := ⟨_, rfl⟩
      obtain ⟨kd, hkd⟩ : ∃ kd, kd = X.kind := ⟨_, rfl⟩
      obtain ⟨wh, hwh⟩ : ∃ wh, wh = X.which := ⟨_, rfl⟩
      rw [← hnb, ← hkd, ← hwh] at hcs
      have HC : Hid (av[0]? = some (.int .i64 kd) ∧ av[1]? = some (.int .i64 X.copies) ∧ av[2]? = some (.int .i64 wh) ∧ av[3]? = some (.int .i64 X.at') ∧ av[39]? = some (.slice X.ba nb X.bc)) := hcs
      have hxvl : X.p.vs.length = 35 := Pt.vs_len hxok.p
      have hxvo : ∀ v ∈ X.p.vs, v.oneCell' = true := Pt.vs_one _
      obtain ⟨xv, hxv⟩ : ∃ xv, xv = X.p.vs := ⟨_, rfl⟩
      have HXV : Hid (xv = X.p.vs) := hxv
      rw [← hxv] at hxp hxvl hxvo
      have HXP : Hid (xv = (av.drop 4).take 35) := hxp
      have hixA : ∀ u, (Instr.indexAt 22 (.slice (some ⟨b, off, none⟩) n ac) (.int .i64 (i : Int))).run Tryd.prog u = .ok (.pointer (some ⟨b, off + i * 40, none⟩)) u := fun u => index_slK Tryd.underlying22 (by kernel_rfl) hlt u
      obtain ⟨pa, pc, rfl⟩ := hPr.form
      obtain ⟨L, hLe⟩ : ∃ L, L = ps.length := ⟨_, rfl⟩
      have HL : Hid (L = ps.length) := hLe
      have hPr' : Plist w1.heap.size wr (.slice pa L pc) ps := by rw [hLe]; exact hPr
      have hKr' : BS w1 wr (rowOf (.slice pa L pc)) k p g S l 7 := by rw [hLe]; exact hKr
      rw [← hLe]
      have HSL : Hid (S.ws.length ≤ 700000) := by show _ ≤ _; have := HS.out; omega
      have HNB : Hid (nb = X.bs.length) := hnb
      clear hX hcs hxp hav hkd hwh hxv hLe hPr hKr hxok hnb
      by_cases hbig : 300 < nb
      · have hx300 : decide ((300 : Int) < (nb : Int)) = true := by simp; omega
        go_wp2_with (first
          | ((with_reducible show wpList _ _ _ (Oper.mk _ (Op.load 45 (.tmp 35)) _ _ _ _ :: _) _ _); refine wpList_load_cells (by rfl) (.tmp 35) 45 (by rfl) b (off + i * 40) 40 (by rfl) agg_actK size_actK av hcA hal40 ?_)
          | ((with_reducible show wpList _ _ _ (Oper.mk (some 9) (Op.alloc 45) _ _ _ _ :: _) _ _); refine wpList_alloc0 (by rfl) 45 (by rfl) (some 9) (by rfl) _ HALA.out ?_; intro wa hAa hba hsa
             have hPa := hPr'.stays hba
             have hKa := hKr'.new (N := fun j => rowOf (.slice pa L pc) j ∨ j = wr.heap.size) hba (fun j hj => hj.imp id (fun e => by rw [e]; exact ⟨Nat.le_refl _, by omega⟩))
             have hnrA : ¬ rowOf (.slice pa L pc) wr.heap.size := fun hj => by have := (hPr'.lt hj).2; omega)
          | ((with_reducible show wpList _ _ _ (Oper.mk _ (Op.store 45 (.tmp 9) _) _ _ _ _ :: _) _ _); refine wpList_store_blk (by rfl) (.tmp 9) (.tmp 36) 45 (by rfl) _ 0 40 (by rfl) av (by rfl) size_actK hAa hal40 (by omega) halo _ (whole_store hzal) ?_
             intro wb hAb hbutb hsb
             have hKb := hKa.set hbutb (.inr rfl) hKr'.bel.size
             have hPb := hPa.but hbutb hnrA
             have HSB : Hid (wb.heap.size = wr.heap.size + 1) := by show _ = _; omega
             have hc39 : wb.cell? ⟨wr.heap.size, 39, none⟩ = some (.slice X.ba nb X.bc) := (hAb.cell 39).trans HC.out.2.2.2.2
             clear hsa hsb hAa hba hPa hKa hbutb))
        go_roundw
        case rel => exact ⟨i + 1, S, l, ps, by go_num, by omega, by omega, hPb, hKb.less (fun j hj => .inl hj), (by show _ ∧ _; have := HS.out; omega)⟩
        case measure => simp [intOf]; omega
      · have hx300 : decide ((300 : Int) < (nb : Int)) = false := by simp; omega
        have HXL : Hid (X.bs.length ≤ 300) := by show _ ≤ _; rw [← HNB.out]; omega
        by_cases hin : 0 ≤ wh ∧ wh < (L : Int)
        · obtain ⟨hin1, hin2⟩ := hin
          obtain ⟨m, hm⟩ : ∃ m : Nat, wh = (m : Int) := ⟨wh.toNat, by omega⟩
          subst hm
          have hmL : m < L := by omega
          have hw1 : decide ((0 : Int) ≤ (m : Int)) = true := by simp
          have hw2 : decide ((m : Int) < (L : Int)) = true := by simp; omega
          obtain ⟨bp, cp', hvp, hj1, hj2, hqok⟩ := hPr'.at (i := m) (by rw [← HL.out]; exact hmL)
          clear hj1 hj2
          have hpa : pa = some ⟨bp, 0, none⟩ := by simp only [Value.slice.injEq] at hvp; exact hvp.1
          subst hpa
          clear hvp
          have hixP : ∀ u : World, (Instr.indexAt 38 (.slice (some ⟨bp, 0, none⟩) L pc) (.int .i64 (m : Int))).run Tryd.prog u = .ok (.pointer (some ⟨bp, m * 35, none⟩)) u := fun u => index_ptrs bp L pc m hmL u
          obtain ⟨Q, hQe'⟩ : ∃ Q, Q = ps.getD m default := ⟨_, rfl⟩
          have HQE : Hid (ps.getD m default = Q) := hQe'.symm
          rw [← hQe'] at hqok
          clear hQe'
          obtain ⟨qv, hqv⟩ : ∃ qv, qv = Q.vs := ⟨_, rfl⟩
          have HQV : Hid (qv = Q.vs) := hqv
          have hqvl : qv.length = 35 := by rw [hqv]; exact Pt.vs_len hqok
          have hqvo : ∀ v ∈ qv, v.oneCell' = true := by rw [hqv]; exact Pt.vs_one _
          have HQOK : Hid Q.ok := hqok
          have htok := doK_tok hKr' X Q
          have hdl := doK_len S l X Q
          obtain ⟨D, hD⟩ : ∃ D, D = doK S l X Q := ⟨_, rfl⟩
          have HD : Hid (D = doK S l X Q) := hD
          rw [← hD] at htok hdl
          have HTOK : Hid D.2.p.ok := htok
          have HDL : Hid (D.1.1.ws.length ≤ S.ws.length + 8) := hdl
          obtain ⟨tv, htv⟩ : ∃ tv, tv = D.2.vs := ⟨_, rfl⟩
          have HTV : Hid (tv = D.2.vs) := htv
          have htvl : tv.length = 40 := by rw [htv]; exact Told.vs_len htok
          have htvo : ∀ v ∈ tv, v.oneCell' = true := by rw [htv]; exact Told.vs_one _
          obtain ⟨ev, hev⟩ : ∃ ev, ev = D.2.e := ⟨_, rfl⟩
          have HTE : Hid (tv[39]? = some (.int .i64 ev)) := by rw [htv, hev]; exact Told.at_e htok
          obtain ⟨tpv, htpv⟩ : ∃ tpv, tpv = D.2.p.vs := ⟨_, rfl⟩
          have HTPV : Hid (tpv = D.2.p.vs) := htpv
          have HTP : Hid (tpv = (tv.drop 0).take 35) := by rw [htpv, htv]; exact Told.at_p htok
          have htpl : tpv.length = 35 := by rw [htpv]; exact Pt.vs_len htok
          have HONE : Hid (∀ w : World, (Instr.buildSlice 38 1 [(0, Value.agg tpv.toArray)].toArray).run Tryd.prog w = .ok (.slice (some ⟨w.heap.size, 0, none⟩) 1 1) (w.alloc (.cells tpv.toArray 42))) := by rw [htpv]; exact run_onep D.2.p htok
          clear hqok hD htok hdl htv hev htpv hqv
          by_cases hk1 : kd = 1
          · subst hk1
            by_cases he1 : ev = 0
            · subst he1
              go_wp2_with (first
                | ((with_reducible show wpList _ _ _ (Oper.mk _ (Op.load 45 (.tmp 35)) _ _ _ _ :: _) _ _); refine wpList_load_cells (by rfl) (.tmp 35) 45 (by rfl) b (off + i * 40) 40 (by rfl) agg_actK size_actK av hcA hal40 ?_)
                | ((with_reducible show wpList _ _ _ (Oper.mk (some 9) (Op.alloc 45) _ _ _ _ :: _) _ _); refine wpList_alloc0 (by rfl) 45 (by rfl) (some 9) (by rfl) _ HALA.out ?_; intro wa hAa hba hsa
                   have hPa := hPr'.stays hba
                   have hKa := hKr'.new (N := fun j => rowOf (.slice (some ⟨bp, 0, none⟩) L pc) j ∨ j = wr.heap.size) hba (fun j hj => hj.imp id (fun e => by rw [e]; exact ⟨Nat.le_refl _, by omega⟩))
                   have hnrA : ¬ rowOf (.slice (some ⟨bp, 0, none⟩) L pc) wr.heap.size := fun hj => by have := (hPr'.lt hj).2; omega)
                | ((with_reducible show wpList _ _ _ (Oper.mk _ (Op.store 45 (.tmp 9) _) _ _ _ _ :: _) _ _); refine wpList_store_blk (by rfl) (.tmp 9) (.tmp 36) 45 (by rfl) _ 0 40 (by rfl) av (by rfl) size_actK hAa hal40 (by omega) halo _ (whole_store hzal) ?_
                   intro wb hAb hbutb hsb
                   have hKb := hKa.set hbutb (.inr rfl) hKr'.bel.size
                   have hPb := hPa.but hbutb hnrA
                   have HSB : Hid (wb.heap.size = wr.heap.size + 1) := by show _ = _; omega
                   have hc39 : wb.cell? ⟨wr.heap.size, 39, none⟩ = some (.slice X.ba nb X.bc) := (hAb.cell 39).trans HC.out.2.2.2.2
                   clear hsa hsb hAa hba hPa hKa hbutb)
                | ((with_reducible show wpList _ _ _ (Oper.mk _ (Op.load 42 (.tmp 41)) _ _ _ _ :: _) _ _); refine wpList_load_blk (by rfl) (.tmp 41) 42 (by rfl) _ 4 35 (by rfl) agg_ptr size_ptr hAb xv HXP.out hxvl ?_)
                | ((with_reducible show wpList _ _ _ (Oper.mk (some 10) (Op.alloc 42) _ _ _ _ :: _) _ _); refine wpList_alloc0 (by rfl) 42 (by rfl) (some 10) (by rfl) _ HALP.out ?_; intro wc hQc hbc hsc
                   have hAc := hAb.stays hbc
                   have hPc := hPb.stays hbc
                   have hKc := hKb.new (N := fun j => (rowOf (.slice (some ⟨bp, 0, none⟩) L pc) j ∨ j = wr.heap.size) ∨ j = wb.heap.size) hbc (fun j hj => hj.imp id (fun e => by rw [e]; exact ⟨Nat.le_refl _, by omega⟩))
                   have hnrQ : ¬ rowOf (.slice (some ⟨bp, 0, none⟩) L pc) wb.heap.size := fun hj => by have := (hPb.lt hj).2; omega)
                | ((with_reducible show wpList _ _ _ (Oper.mk _ (Op.store 42 (.tmp 10) (.tmp 42)) _ _ _ _ :: _) _ _); refine wpList_store_blk (by rfl) (.tmp 10) (.tmp 42) 42 (by rfl) _ 0 35 (by rfl) xv (by rfl) size_ptr hQc hxvl (by omega) hxvo _ (whole_store hzpl) ?_
                   intro wd hQd hbutd hsd
                   have hAd := hAc.but hbutd (by have := HSB.out; omega)
                   have hPd := hPc.but hbutd hnrQ
                   have hKd := hKc.set hbutd (.inr rfl) (by have := hKb.bel.size; omega)
                   have hc2 : wd.cell? ⟨wr.heap.size, 2, none⟩ = some (.int .i64 (m : Int)) := (hAd.cell 2).trans HC.out.2.2.1
                   clear hAc hPc hKc hbutd hQc hbc hsc hsd hc39
                   have hcP := hPd.cells (i := m) (by rw [← HL.out]; exact hmL)
                   rw [HQE.out, ← HQV.out] at hcP)
                | ((with_reducible show wpList _ _ _ (Oper.mk _ (Op.load 42 (.tmp 56)) _ _ _ _ :: _) _ _); refine wpList_load_cells (by rfl) (.tmp 56) 42 (by rfl) bp (m * 35) 35 (by rfl) agg_ptr size_ptr qv hcP hqvl ?_)
                | ((with_reducible show wpList _ _ _ (Oper.mk _ (Op.store 42 (.tmp 10) (.tmp 57)) _ _ _ _ :: _) _ _); refine wpList_store_blk (by rfl) (.tmp 10) (.tmp 57) 42 (by rfl) _ 0 35 (by rfl) qv (by rfl) size_ptr hQd hqvl (by omega) hqvo _ (whole_store hxvl) ?_
                   intro we hQe hbute hse
                   have hAe := hAd.but hbute (by have := HSB.out; omega)
                   have hPe := hPd.but hbute hnrQ
                   have hKe := hKd.set hbute (.inr rfl) (by have := hKb.bel.size; omega)
                   clear hse hbute hcP
                   have hdo := do_run hKe HV1.out HSL.out X HXO.out HXL.out Q HQOK.out
                   rw [← HD.out, ← HAV.out, ← HQV.out, ← HTV.out] at hdo)
                | ((with_reducible show wpList _ _ _ (Oper.mk _ (Op.load 45 (.tmp 9)) _ _ _ _ :: _) _ _); refine wpList_load_blk (by rfl) (.tmp 9) 45 (by rfl) _ 0 40 (by rfl) agg_actK size_actK hAe _ (whole_load hal40) hal40 ?_)
                | ((with_reducible show wpList _ _ _ (Oper.mk _ (Op.load 42 (.tmp 10)) _ _ _ _ :: _) _ _); refine wpList_load_blk (by rfl) (.tmp 10) 42 (by rfl) _ 0 35 (by rfl) agg_ptr size_ptr hQe _ (whole_load hqvl) hqvl ?_)
                | (go_at_call 7; go_must (refine hdo.mono ?_); rintro e wf ⟨rfl, hKf, hyf⟩
                   have hAf := hyf.blk hAe (.inl (.inr rfl))
                   have hPf := hPe.stay hyf (fun j hj => .inl (.inl hj))
                   have hKf' := hKf.less (N := rowOf (.slice (some ⟨bp, 0, none⟩) L pc)) (fun j hj => .inl (.inl hj))
                   have hnrT : ¬ rowOf (.slice (some ⟨bp, 0, none⟩) L pc) wf.heap.size := fun hj => by have := (hPf.lt hj).2; omega
                   have hltA := hAf.lt
                   dsimp only []
                   apply_assumption
                   refine wpList_alloc0 (by rfl) 49 (by rfl) (some 11) (by rfl) _ HALT.out ?_
                   intro wg hTg hbg hsg
                   have hAg := hAf.stays hbg
                   have hPg := hPf.stays hbg
                   have hKg := hKf'.new (N := fun j => rowOf (.slice (some ⟨bp, 0, none⟩) L pc) j ∨ j = wf.heap.size) hbg (fun j hj => hj.imp id (fun e => by rw [e]; exact ⟨Nat.le_refl _, by omega⟩))
                   refine wpList_store_blk (by rfl) (.tmp 11) (.tmp 62) 49 (by rfl) _ 0 40 (by rfl) tv (by rfl) size_told hTg htvl (by omega) htvo _ (whole_store hztl) ?_
                   intro wh' hTh hbuth hsh
                   have hAh := hAg.but hbuth (by omega)
                   have hPh' := hPg.but hbuth hnrT
                   have hKh := (hKg.set hbuth (.inr rfl) hKf.bel.size).less (N := rowOf (.slice (some ⟨bp, 0, none⟩) L pc)) (fun j hj => .inl hj)
                   have hc0 : wh'.cell? ⟨wr.heap.size, 0, none⟩ = some (.int .i64 1) := (hAh.cell 0).trans HC.out.1
                   have hce : wh'.cell? ⟨wf.heap.size, 39, none⟩ = some (.int .i64 0) := (hTh.cell 39).trans HTE.out
                   clear hKf hyf hAf hPf hKf' hltA hAg hPg hKg hbg hsg hTg hsh hbuth hAe hPe hKe hQe hdo hc2)
                | ((with_reducible show wpList _ _ _ (Oper.mk _ (Op.load 42 (.tmp 72)) _ _ _ _ :: _) _ _); refine wpList_load_blk (by rfl) (.tmp 72) 42 (by rfl) _ 0 35 (by rfl) agg_ptr size_ptr hTh tpv HTP.out htpl ?_)
                | ((with_reducible show wpList _ _ _ (Oper.mk _ (Op.buildSlice 38 1 _) _ _ _ _ :: _) _ _); refine wpList_onep (by rfl) (.tmp 73) (by rfl) (some 74) (by rfl) tpv (by rfl) HONE.out ?_; intro wi b9 hb9e hRi hbi hsi
                   have hPi := hPh'.stays hbi
                   rw [HTPV.out] at hRi
                   have hKi := hKh.stays hbi)
                | ((with_reducible show wpList _ _ _ (Oper.mk _ (Op.call { callee := _, args := #[Operand.tmp 71, Operand.tmp 74], argTypes := _ }) _ _ _ _ :: _) _ _); go_must (refine wpList_append_ptr (by rfl) (.tmp 71) (.tmp 74) (by rfl) w1.heap.size (.slice (some ⟨bp, 0, none⟩) L pc) _ (by rfl) hPi b9 D.2.p HTOK.out (by rfl) hRi (by have := HS.out; omega) hKi.bel.size ?_); intro v8 w8 hP8 hg8 hr8
                   have hK8 := hKi.grown hg8 (fun j hj => ⟨hj, (hPi.lt hj).1⟩) (N := rowOf v8) (fun j hj => hr8 j hj)
                   clear hg8 hr8 hKi hPi hRi hbi hsi hb9e))
              obtain ⟨ia, ic, rfl⟩ := hP8.form
              obtain ⟨LI, hLI⟩ : ∃ LI, LI = (ps ++ [D.2.p]).length := ⟨_, rfl⟩
              have HLI : Hid (LI = (ps ++ [D.2.p]).length) := hLI
              have hPI : Plist w1.heap.size w8 (.slice ia LI ic) (ps ++ [D.2.p]) := by rw [hLI]; exact hP8
              have hKI : BS w1 w8 (rowOf (.slice ia LI ic)) k p g D.1.1 D.1.2 7 := by rw [hLI]; exact hK8
              obtain ⟨psI, hpsI⟩ : ∃ psI, psI = ps ++ [D.2.p] := ⟨_, rfl⟩
              rw [← hpsI] at hPI HLI
              rw [← hLI]
              have HSI : Hid (D.1.1.ws.length ≤ 8 * (i + 1) ∧ psI.length ≤ (i + 1) + 1) := by show _ ∧ _; rw [hpsI]; have := HS.out; have := HDL.out; exact ⟨by omega, (by rw [List.length_append, List.length_singleton]; omega)⟩
              clear hLI hpsI hP8 hK8
              have hLI31 : LI ≤ 31 := by have h1 := HSI.out.2; have h2 := HLI.out; omega
              go_wp2
              go_loopw [12] (fun x wq => ∃ (q : World) (j : Nat), q = wq ∧ x = .int .i64 j ∧ j ≤ LI ∧ BS w1 wq (rowOf (.slice ia LI ic)) k p g D.1.1 D.1.2 7 ∧ Plist w1.heap.size wq (.slice ia LI ic) psI) (fun x _ => LI - (intOf x).toNat)
              case atStart => exact ⟨_, 0, rfl, rfl, by omega, hKI, hPI⟩
              case round =>
                clear hKI hPI
                have hrelI := hrel
                clear hrel
                obtain ⟨wq, j, rfl, rfl, hjL, hKq, hPq⟩ := hrelI
                by_cases hltI : j < LI
                · have hq7 : decide ((j : Int) < (LI : Int)) = true := by simp; omega
                  have hjp : j < psI.length := by rw [← HLI.out]; exact hltI
                  obtain ⟨bq, cb, hve, hrb, hcellI, hpok⟩ := hPq.at (i := j) hjp
                  have hcv : ia = some ⟨bq, 0, none⟩ := by simp only [Value.slice.injEq] at hve; exact hve.1
                  subst hcv
                  have hixI : ∀ u : World, (Instr.indexAt 38 (.slice (some ⟨bq, 0, none⟩) LI ic) (.int .i64 (j : Int))).run Tryd.prog u = .ok (.pointer (some ⟨bq, j * 35, none⟩)) u := fun u => index_ptrs bq LI ic j hltI u
                  obtain ⟨P, hPe⟩ : ∃ P, P = psI.getD j default := ⟨_, rfl⟩
                  rw [← hPe] at hcellI hpok
                  have HPOK : Hid P.ok := hpok
                  have hvl : P.vs.length = 35 := Pt.vs_len hpok
                  obtain ⟨nS, hok⟩ := hKq.ok
                  have hnev := read_never hok P
                  have hrlen := readK_len hok P
                  have HSLI : Hid (D.1.1.ws.length ≤ 800000) := by show _ ≤ _; have := HSI.out; omega
                  have hrd := bs_read hKq HV1.out HSLI.out P hpok
                  have hPh := Pt.at_h hpok
                  obtain ⟨hs, hhs⟩ : ∃ hs, hs = P.h.map (Value.int .u8) := ⟨_, rfl⟩
                  have HHS : Hid (hs = P.h.map (Value.int .u8)) := hhs
                  have hhl : hs.length = 32 := by rw [hhs, List.length_map, hpok.len]
                  rw [← hhs] at hPh
                  obtain ⟨vs, hvs⟩ : ∃ vs, vs = P.vs := ⟨_, rfl⟩
                  have HVS : Hid (vs = P.vs) := hvs
                  rw [← hvs] at hcellI hvl hrd hPh
                  obtain ⟨RB, hRB⟩ : ∃ RB, RB = (readK D.1.1 P).1 := ⟨_, rfl⟩
                  obtain ⟨ER, hER⟩ : ∃ ER, ER = (readK D.1.1 P).2 := ⟨_, rfl⟩
                  rw [← hRB, ← hER] at hrd hnev hrlen
                  have HNEV : Hid (ER = 0 → RB.length = 256 ∧ (shaOf RB = P.h ∨ P = Pt.zero)) := hnev
                  have HPJ : Hid (psI.getD j default = P) := hPe.symm
                  clear hRB hER hvs hhs hPe hve hok hjp hnev
                  by_cases he0 : ER = 0
                  · subst he0
                    have hl256 : RB.length = 256 := (HNEV.out rfl).1
                    have HNV : Hid (shaOf RB = P.h ∨ P = Pt.zero) := (HNEV.out rfl).2
                    clear HNEV
                    rw [hl256] at hrd
                    clear hrlen
                    go_wp2_with (first
                      | ((with_reducible show wpList _ _ _ (Oper.mk _ (Op.load 42 (.tmp 86)) _ _ _ _ :: _) _ _); refine wpList_load_cells (by rfl) (.tmp 86) 42 (by rfl) bq (j * 35) 35 (by rfl) agg_ptr size_ptr vs hcellI hvl ?_)
                      | (go_at_call 17; go_must (refine hrd.mono ?_); rintro e wq2 ⟨a5, c5, rfl, hN5, hb5⟩))
                    have hKq2 := hKq.stays hb5
                    have hPq2 := hPq.stays hb5
                    have hsum2 : ∀ u, Below wq2.heap.size wq2 u → Calls Tryd.prog 18 #[.slice a5 256 c5] u fun e w' => e = .returned (.agg ((shaOf RB).map (Value.int .u8)).toArray) ∧ Below u.heap.size u w' := fun u hu => by
                      have := sum_run a5 c5 _ u (hN5.1.stays hu) ((hKq2.stays hu).vars HV1.out) (by rw [hl256]; omega)
                      rw [hl256] at this
                      exact this
                    have hcq2 : ∀ u, Below wq2.heap.size wq2 u → ∀ m, m < 35 → u.cell? ⟨bq, j * 35 + m, none⟩ = vs[m]? := fun u hu m hm => by rw [HVS.out]; exact ((hPq2.stays hu).cells (i := j) (by rw [← HLI.out]; exact hltI) m hm).trans (by rw [HPJ.out])
                    have hldh : ∀ u, Below wq2.heap.size wq2 u → (Instr.loadAt 39 (.pointer (some ⟨bq, j * 35, none⟩))).run Tryd.prog u = .ok (.agg hs.toArray) u := fun u hu => run_load_cells agg_hsh size_hash (fun m hm => (hcq2 u hu m (by omega)).trans (hPh m hm)) hhl
                    have hldp : ∀ u, Below wq2.heap.size wq2 u → (Instr.loadAt 42 (.pointer (some ⟨bq, j * 35, none⟩))).run Tryd.prog u = .ok (.agg vs.toArray) u := fun u hu => run_load_cells agg_ptr size_ptr (hcq2 u hu) hvl
                    have heq := fun u => sum_equal P HPOK.out (shaOf RB) (shaOf_length _) u
                    rw [← HHS.out] at heq
                    obtain ⟨ss, hss⟩ : ∃ ss, ss = (shaOf RB).map (Value.int .u8) := ⟨_, rfl⟩
                    rw [← hss] at heq hsum2
                    by_cases hsame : (shaOf RB == P.h) = true
                    · rw [hsame] at heq
                      have HEQ : Hid (∀ u, (Op.equalIn 10000 39 (.agg ss.toArray) (.agg hs.toArray)).run Tryd.prog u = .ok true u) := heq
                      clear heq hss hcellI hrd hcq2 hPh hKq hPq hb5 hN5
                      refine UpT.wp_region_tail 24 (UpT.tell [(8, isV (.agg ss.toArray))]) (fun _ => false) (by kernel_rfl) (by kernel_rfl) (UpT.tell_steady _ (by
                        intro p hp
                        simp only [List.mem_cons, List.not_mem_nil, or_false] at hp
                        rcases hp with rfl <;> first | exact isV_steady _ | exact slB_steady _ _)) ?_
                      simp only [List.take_succ_cons, List.take_zero]
                      iterate 3 (apply UpT.wpUp_pure; (case hw => rfl); (case hψ => rfl); (case hv => (intro wz hp; clear hp; go_simp; try (with_reducible rfl))); simp only [Act.put, List.setIfInBounds_toArray, List.set_cons_zero, List.set_cons_succ])
                      iterate 5 (apply UpT.wpUp_pure; (case hw => rfl); (case hψ => rfl); (case hv => (intro wz hp; clear hp; go_simp; try (with_reducible rfl))); simp only [Act.put, List.setIfInBounds_toArray, List.set_cons_zero, List.set_cons_succ])
                      refine UpT.wpUp_call _ 18 #[.slice a5 256 c5] (by rfl) (by rfl) (by rfl) (fun wz => by go_simp) (fun wz hp => calls_isV (hsum2 wz hp.1)) ?_
                      rintro v ⟨u, _, hf⟩
                      obtain rfl := hf.of 8 v _ rfl rfl
                      clear hf
                      simp only [Act.put, List.setIfInBounds_toArray, List.set_cons_zero, List.set_cons_succ]
                      iterate 4 (apply UpT.wpUp_pure; (case hw => rfl); (case hψ => rfl); (case hv => (intro wz hp; clear hp; go_simp; try (with_reducible rfl))); simp only [Act.put, List.setIfInBounds_toArray, List.set_cons_zero, List.set_cons_succ])
                      refine UpT.wpUp_pure (.agg hs.toArray) (by rfl) (by rfl) (fun wz hp => exec_load (by rfl) (by rfl) (hldh wz hp.1)) ?_
                      simp only [Act.put, List.setIfInBounds_toArray, List.set_cons_zero, List.set_cons_succ]
                      have heq := HEQ.out
                      iterate 2 (apply UpT.wpUp_pure; (case hw => rfl); (case hψ => rfl); (case hv => (intro wz hp; clear hp; go_simp; try (with_reducible rfl))); simp only [Act.put, List.setIfInBounds_toArray, List.set_cons_zero, List.set_cons_succ])
                      iterate 6 (refine UpT.wpUp_pass (by rfl) ?_; simp only [Act.put, List.setIfInBounds_toArray, List.set_cons_zero, List.set_cons_succ])
                      iterate 2 (apply UpT.wpUp_pure; (case hw => rfl); (case hψ => rfl); (case hv => (intro wz hp; clear hp; go_simp; try (with_reducible rfl))); simp only [Act.put, List.setIfInBounds_toArray, List.set_cons_zero, List.set_cons_succ])
                      refine UpT.wpUp_end ?_
                      intro wq3 hb6 hf
                      clear hf
                      simp only [List.drop_succ_cons, List.drop_zero]
                      go_wp2
                      go_roundw
                      case rel => exact ⟨_, j + 1, rfl, by go_num, by omega, hKq2.stays hb6, hPq2.stays hb6⟩
                      case measure => simp [intOf]; omega
                    · have hsame' : (shaOf RB == P.h) = false := by simpa using hsame
                      rw [hsame'] at heq
                      have HEQ : Hid (∀ u, (Op.equalIn 10000 39 (.agg ss.toArray) (.agg hs.toArray)).run Tryd.prog u = .ok false u) := heq
                      have hz : P = Pt.zero := by
                        rcases HNV.out with h1 | h1
                        · exact absurd (by simpa using h1) hsame
                        · exact h1
                      have HPEQ : Hid (∀ u, (Op.equalIn 10000 42 (.agg vs.toArray) (.agg zp.toArray)).run Tryd.prog u = .ok true u) := by
                        show ∀ u, _
                        intro u
                        rw [HVS.out, HZP.out, ptr_zero_equal P HPOK.out u, hz]
                        rfl
                      clear heq hss hcellI hrd hcq2 hPh hKq hPq hb5 hN5 hz hsame hsame'
                      refine UpT.wp_region_tail 24 (UpT.tell [(8, isV (.agg ss.toArray))]) (fun _ => false) (by kernel_rfl) (by kernel_rfl) (UpT.tell_steady _ (by
                        intro p hp
                        simp only [List.mem_cons, List.not_mem_nil, or_false] at hp
                        rcases hp with rfl <;> first | exact isV_steady _ | exact slB_steady _ _)) ?_
                      simp only [List.take_succ_cons, List.take_zero]
                      iterate 3 (apply UpT.wpUp_pure; (case hw => rfl); (case hψ => rfl); (case hv => (intro wz hp; clear hp; go_simp; try (with_reducible rfl))); simp only [Act.put, List.setIfInBounds_toArray, List.set_cons_zero, List.set_cons_succ])
                      iterate 5 (apply UpT.wpUp_pure; (case hw => rfl); (case hψ => rfl); (case hv => (intro wz hp; clear hp; go_simp; try (with_reducible rfl))); simp only [Act.put, List.setIfInBounds_toArray, List.set_cons_zero, List.set_cons_succ])
                      refine UpT.wpUp_call _ 18 #[.slice a5 256 c5] (by rfl) (by rfl) (by rfl) (fun wz => by go_simp) (fun wz hp => calls_isV (hsum2 wz hp.1)) ?_
                      rintro v ⟨u, _, hf⟩
                      obtain rfl := hf.of 8 v _ rfl rfl
                      clear hf
                      simp only [Act.put, List.setIfInBounds_toArray, List.set_cons_zero, List.set_cons_succ]
                      iterate 4 (apply UpT.wpUp_pure; (case hw => rfl); (case hψ => rfl); (case hv => (intro wz hp; clear hp; go_simp; try (with_reducible rfl))); simp only [Act.put, List.setIfInBounds_toArray, List.set_cons_zero, List.set_cons_succ])
                      refine UpT.wpUp_pure (.agg hs.toArray) (by rfl) (by rfl) (fun wz hp => exec_load (by rfl) (by rfl) (hldh wz hp.1)) ?_
                      simp only [Act.put, List.setIfInBounds_toArray, List.set_cons_zero, List.set_cons_succ]
                      have heq := HEQ.out
                      iterate 2 (apply UpT.wpUp_pure; (case hw => rfl); (case hψ => rfl); (case hv => (intro wz hp; clear hp; go_simp; try (with_reducible rfl))); simp only [Act.put, List.setIfInBounds_toArray, List.set_cons_zero, List.set_cons_succ])
                      iterate 3 (apply UpT.wpUp_pure; (case hw => rfl); (case hψ => rfl); (case hv => (intro wz hp; clear hp; go_simp; try (with_reducible rfl))); simp only [Act.put, List.setIfInBounds_toArray, List.set_cons_zero, List.set_cons_succ])
                      refine UpT.wpUp_pure (.agg vs.toArray) (by rfl) (by rfl) (fun wz hp => exec_load (by rfl) (by rfl) (hldp wz hp.1)) ?_
                      simp only [Act.put, List.setIfInBounds_toArray, List.set_cons_zero, List.set_cons_succ]
                      refine UpT.wpUp_pure (.agg zp.toArray) (by rfl) (by rfl) (fun wz hp => exec_build0 (by rfl) (HBUP.out wz)) ?_
                      simp only [Act.put, List.setIfInBounds_toArray, List.set_cons_zero, List.set_cons_succ]
                      have hpeq := HPEQ.out
                      iterate 3 (apply UpT.wpUp_pure; (case hw => rfl); (case hψ => rfl); (case hv => (intro wz hp; clear hp; go_simp; try (with_reducible rfl))); simp only [Act.put, List.setIfInBounds_toArray, List.set_cons_zero, List.set_cons_succ])
                      refine UpT.wpUp_end ?_
                      intro wq3 hb6 hf
                      clear hf
                      simp only [List.drop_succ_cons, List.drop_zero]
                      go_wp2
                      go_roundw
                      case rel => exact ⟨_, j + 1, rfl, by go_num, by omega, hKq2.stays hb6, hPq2.stays hb6⟩
                      case measure => simp [intOf]; omega
                  · have heb : (ER == 0) = false := by simp [he0]
                    have heb2 : decide (ER = 0) = false := by simp [he0]
                    rcases hrlen with hrl | hrl
                    · exact absurd hrl.1 he0
                    rw [hrl.2] at hrd
                    simp only [List.length_nil] at hrd
                    go_wp2_with (first
                      | ((with_reducible show wpList _ _ _ (Oper.mk _ (Op.load 42 (.tmp 86)) _ _ _ _ :: _) _ _); refine wpList_load_cells (by rfl) (.tmp 86) 42 (by rfl) bq (j * 35) 35 (by rfl) agg_ptr size_ptr vs hcellI hvl ?_)
                      | (go_at_call 17; go_must (refine hrd.mono ?_); rintro e wq2 ⟨a5, c5, rfl, hN5, hb5⟩))
                    have hKq2 := hKq.stays hb5
                    have hPq2 := hPq.stays hb5
                    obtain ⟨ss, hss⟩ : ∃ ss : List Value, ss = [] := ⟨_, rfl⟩
                    clear hss hcellI hrd hPh hKq hPq hb5 hN5
                    refine UpT.wp_region_tail 24 (UpT.tell [(8, isV (.agg ss.toArray))]) (fun _ => false) (by kernel_rfl) (by kernel_rfl) (UpT.tell_steady _ (by
                      intro p hp
                      simp only [List.mem_cons, List.not_mem_nil, or_false] at hp
                      rcases hp with rfl <;> first | exact isV_steady _ | exact slB_steady _ _)) ?_
                    simp only [List.take_succ_cons, List.take_zero]
                    iterate 3 (apply UpT.wpUp_pure; (case hw => rfl); (case hψ => rfl); (case hv => (intro wz hp; clear hp; go_simp; try (with_reducible rfl))); simp only [Act.put, List.setIfInBounds_toArray, List.set_cons_zero, List.set_cons_succ])
                    iterate 21 (refine UpT.wpUp_pass (by rfl) ?_; simp only [Act.put, List.setIfInBounds_toArray, List.set_cons_zero, List.set_cons_succ])
                    refine UpT.wpUp_end ?_
                    intro wq3 hb6 hf
                    clear hf
                    simp only [List.drop_succ_cons, List.drop_zero]
                    go_wp2
                    go_roundw
                    case rel => exact ⟨_, j + 1, rfl, by go_num, by omega, hKq2.stays hb6, hPq2.stays hb6⟩
                    case measure => simp [intOf]; omega
                · have hq7 : decide ((j : Int) < (LI : Int)) = false := by simp; omega
                  go_wp2
                  go_roundw
                  case rel => exact ⟨i + 1, D.1.1, D.1.2, psI, by go_num, by omega, by omega, hPq, hKq, HSI⟩
                  case measure => simp [intOf]; omega
            · have hee1 : (ev == 0) = false := by simp [he1]
              have hee2 : decide (ev = 0) = false := by simp [he1]
              go_wp2_with (first
                | ((with_reducible show wpList _ _ _ (Oper.mk _ (Op.load 45 (.tmp 35)) _ _ _ _ :: _) _ _); refine wpList_load_cells (by rfl) (.tmp 35) 45 (by rfl) b (off + i * 40) 40 (by rfl) agg_actK size_actK av hcA hal40 ?_)
                | ((with_reducible show wpList _ _ _ (Oper.mk (some 9) (Op.alloc 45) _ _ _ _ :: _) _ _); refine wpList_alloc0 (by rfl) 45 (by rfl) (some 9) (by rfl) _ HALA.out ?_; intro wa hAa hba hsa
                   have hPa := hPr'.stays hba
                   have hKa := hKr'.new (N := fun j => rowOf (.slice (some ⟨bp, 0, none⟩) L pc) j ∨ j = wr.heap.size) hba (fun j hj => hj.imp id (fun e => by rw [e]; exact ⟨Nat.le_refl _, by omega⟩))
                   have hnrA : ¬ rowOf (.slice (some ⟨bp, 0, none⟩) L pc) wr.heap.size := fun hj => by have := (hPr'.lt hj).2; omega)
                | ((with_reducible show wpList _ _ _ (Oper.mk _ (Op.store 45 (.tmp 9) _) _ _ _ _ :: _) _ _); refine wpList_store_blk (by rfl) (.tmp 9) (.tmp 36) 45 (by rfl) _ 0 40 (by rfl) av (by rfl) size_actK hAa hal40 (by omega) halo _ (whole_store hzal) ?_
                   intro wb hAb hbutb hsb
                   have hKb := hKa.set hbutb (.inr rfl) hKr'.bel.size
                   have hPb := hPa.but hbutb hnrA
                   have HSB : Hid (wb.heap.size = wr.heap.size + 1) := by show _ = _; omega
                   have hc39 : wb.cell? ⟨wr.heap.size, 39, none⟩ = some (.slice X.ba nb X.bc) := (hAb.cell 39).trans HC.out.2.2.2.2
                   clear hsa hsb hAa hba hPa hKa hbutb)
                | ((with_reducible show wpList _ _ _ (Oper.mk _ (Op.load 42 (.tmp 41)) _ _ _ _ :: _) _ _); refine wpList_load_blk (by rfl) (.tmp 41) 42 (by rfl) _ 4 35 (by rfl) agg_ptr size_ptr hAb xv HXP.out hxvl ?_)
                | ((with_reducible show wpList _ _ _ (Oper.mk (some 10) (Op.alloc 42) _ _ _ _ :: _) _ _); refine wpList_alloc0 (by rfl) 42 (by rfl) (some 10) (by rfl) _ HALP.out ?_; intro wc hQc hbc hsc
                   have hAc := hAb.stays hbc
                   have hPc := hPb.stays hbc
                   have hKc := hKb.new (N := fun j => (rowOf (.slice (some ⟨bp, 0, none⟩) L pc) j ∨ j = wr.heap.size) ∨ j = wb.heap.size) hbc (fun j hj => hj.imp id (fun e => by rw [e]; exact ⟨Nat.le_refl _, by omega⟩))
                   have hnrQ : ¬ rowOf (.slice (some ⟨bp, 0, none⟩) L pc) wb.heap.size := fun hj => by have := (hPb.lt hj).2; omega)
                | ((with_reducible show wpList _ _ _ (Oper.mk _ (Op.store 42 (.tmp 10) (.tmp 42)) _ _ _ _ :: _) _ _); refine wpList_store_blk (by rfl) (.tmp 10) (.tmp 42) 42 (by rfl) _ 0 35 (by rfl) xv (by rfl) size_ptr hQc hxvl (by omega) hxvo _ (whole_store hzpl) ?_
                   intro wd hQd hbutd hsd
                   have hAd := hAc.but hbutd (by have := HSB.out; omega)
                   have hPd := hPc.but hbutd hnrQ
                   have hKd := hKc.set hbutd (.inr rfl) (by have := hKb.bel.size; omega)
                   have hc2 : wd.cell? ⟨wr.heap.size, 2, none⟩ = some (.int .i64 (m : Int)) := (hAd.cell 2).trans HC.out.2.2.1
                   clear hAc hPc hKc hbutd hQc hbc hsc hsd hc39
                   have hcP := hPd.cells (i := m) (by rw [← HL.out]; exact hmL)
                   rw [HQE.out, ← HQV.out] at hcP)
                | ((with_reducible show wpList _ _ _ (Oper.mk _ (Op.load 42 (.tmp 56)) _ _ _ _ :: _) _ _); refine wpList_load_cells (by rfl) (.tmp 56) 42 (by rfl) bp (m * 35) 35 (by rfl) agg_ptr size_ptr qv hcP hqvl ?_)
                | ((with_reducible show wpList _ _ _ (Oper.mk _ (Op.store 42 (.tmp 10) (.tmp 57)) _ _ _ _ :: _) _ _); refine wpList_store_blk (by rfl) (.tmp 10) (.tmp 57) 42 (by rfl) _ 0 35 (by rfl) qv (by rfl) size_ptr hQd hqvl (by omega) hqvo _ (whole_store hxvl) ?_
                   intro we hQe hbute hse
                   have hAe := hAd.but hbute (by have := HSB.out; omega)
                   have hPe := hPd.but hbute hnrQ
                   have hKe := hKd.set hbute (.inr rfl) (by have := hKb.bel.size; omega)
                   clear hse hbute hcP
                   have hdo := do_run hKe HV1.out HSL.out X HXO.out HXL.out Q HQOK.out
                   rw [← HD.out, ← HAV.out, ← HQV.out, ← HTV.out] at hdo)
                | ((with_reducible show wpList _ _ _ (Oper.mk _ (Op.load 45 (.tmp 9)) _ _ _ _ :: _) _ _); refine wpList_load_blk (by rfl) (.tmp 9) 45 (by rfl) _ 0 40 (by rfl) agg_actK size_actK hAe _ (whole_load hal40) hal40 ?_)
                | ((with_reducible show wpList _ _ _ (Oper.mk _ (Op.load 42 (.tmp 10)) _ _ _ _ :: _) _ _); refine wpList_load_blk (by rfl) (.tmp 10) 42 (by rfl) _ 0 35 (by rfl) agg_ptr size_ptr hQe _ (whole_load hqvl) hqvl ?_)
                | (go_at_call 7; go_must (refine hdo.mono ?_); rintro e wf ⟨rfl, hKf, hyf⟩
                   have hAf := hyf.blk hAe (.inl (.inr rfl))
                   have hPf := hPe.stay hyf (fun j hj => .inl (.inl hj))
                   have hKf' := hKf.less (N := rowOf (.slice (some ⟨bp, 0, none⟩) L pc)) (fun j hj => .inl (.inl hj))
                   have hnrT : ¬ rowOf (.slice (some ⟨bp, 0, none⟩) L pc) wf.heap.size := fun hj => by have := (hPf.lt hj).2; omega
                   have hltA := hAf.lt
                   dsimp only []
                   apply_assumption
                   refine wpList_alloc0 (by rfl) 49 (by rfl) (some 11) (by rfl) _ HALT.out ?_
                   intro wg hTg hbg hsg
                   have hAg := hAf.stays hbg
                   have hPg := hPf.stays hbg
                   have hKg := hKf'.new (N := fun j => rowOf (.slice (some ⟨bp, 0, none⟩) L pc) j ∨ j = wf.heap.size) hbg (fun j hj => hj.imp id (fun e => by rw [e]; exact ⟨Nat.le_refl _, by omega⟩))
                   refine wpList_store_blk (by rfl) (.tmp 11) (.tmp 62) 49 (by rfl) _ 0 40 (by rfl) tv (by rfl) size_told hTg htvl (by omega) htvo _ (whole_store hztl) ?_
                   intro wh' hTh hbuth hsh
                   have hAh := hAg.but hbuth (by omega)
                   have hPh' := hPg.but hbuth hnrT
                   have hKh := (hKg.set hbuth (.inr rfl) hKf.bel.size).less (N := rowOf (.slice (some ⟨bp, 0, none⟩) L pc)) (fun j hj => .inl hj)
                   have hc0 : wh'.cell? ⟨wr.heap.size, 0, none⟩ = some (.int .i64 1) := (hAh.cell 0).trans HC.out.1
                   have hce : wh'.cell? ⟨wf.heap.size, 39, none⟩ = some (.int .i64 ev) := (hTh.cell 39).trans HTE.out
                   clear hKf hyf hAf hPf hKf' hltA hAg hPg hKg hbg hsg hTg hsh hbuth hAe hPe hKe hQe hdo hc2))
              obtain ⟨vI, hvI⟩ : ∃ vI, vI = Value.slice (some ⟨bp, 0, none⟩) L pc := ⟨_, rfl⟩
              rw [← hvI] at hPh' hKh ⊢
              clear hvI
              obtain ⟨ia, ic, rfl⟩ := hPh'.form
              obtain ⟨LI, hLI⟩ : ∃ LI, LI = (ps).length := ⟨_, rfl⟩
              have HLI : Hid (LI = (ps).length) := hLI
              have hPI : Plist w1.heap.size wh' (.slice ia LI ic) (ps) := by rw [hLI]; exact hPh'
              have hKI : BS w1 wh' (rowOf (.slice ia LI ic)) k p g D.1.1 D.1.2 7 := by rw [hLI]; exact hKh
              obtain ⟨psI, hpsI⟩ : ∃ psI, psI = ps := ⟨_, rfl⟩
              rw [← hpsI] at hPI HLI
              rw [← hLI]
              have HSI : Hid (D.1.1.ws.length ≤ 8 * (i + 1) ∧ psI.length ≤ (i + 1) + 1) := by show _ ∧ _; rw [hpsI]; have := HS.out; have := HDL.out; exact ⟨by omega, by omega⟩
              clear hLI hpsI hPh' hKh
              have hLI31 : LI ≤ 31 := by have h1 := HSI.out.2; have h2 := HLI.out; omega
              go_wp2
              go_loopw [12] (fun x wq => ∃ (q : World) (j : Nat), q = wq ∧ x = .int .i64 j ∧ j ≤ LI ∧ BS w1 wq (rowOf (.slice ia LI ic)) k p g D.1.1 D.1.2 7 ∧ Plist w1.heap.size wq (.slice ia LI ic) psI) (fun x _ => LI - (intOf x).toNat)
              case atStart => exact ⟨_, 0, rfl, rfl, by omega, hKI, hPI⟩
              case round =>
                clear hKI hPI
                have hrelI := hrel
                clear hrel
                obtain ⟨wq, j, rfl, rfl, hjL, hKq, hPq⟩ := hrelI
                by_cases hltI : j < LI
                · have hq7 : decide ((j : Int) < (LI : Int)) = true := by simp; omega
                  have hjp : j < psI.length := by rw [← HLI.out]; exact hltI
                  obtain ⟨bq, cb, hve, hrb, hcellI, hpok⟩ := hPq.at (i := j) hjp
                  have hcv : ia = some ⟨bq, 0, none⟩ := by simp only [Value.slice.injEq] at hve; exact hve.1
                  subst hcv
                  have hixI : ∀ u : World, (Instr.indexAt 38 (.slice (some ⟨bq, 0, none⟩) LI ic) (.int .i64 (j : Int))).run Tryd.prog u = .ok (.pointer (some ⟨bq, j * 35, none⟩)) u := fun u => index_ptrs bq LI ic j hltI u
                  obtain ⟨P, hPe⟩ : ∃ P, P = psI.getD j default := ⟨_, rfl⟩
                  rw [← hPe] at hcellI hpok
                  have HPOK : Hid P.ok := hpok
                  have hvl : P.vs.length = 35 := Pt.vs_len hpok
                  obtain ⟨nS, hok⟩ := hKq.ok
                  have hnev := read_never hok P
                  have hrlen := readK_len hok P
                  have HSLI : Hid (D.1.1.ws.length ≤ 800000) := by show _ ≤ _; have := HSI.out; omega
                  have hrd := bs_read hKq HV1.out HSLI.out P hpok
                  have hPh := Pt.at_h hpok
                  obtain ⟨hs, hhs⟩ : ∃ hs, hs = P.h.map (Value.int .u8) := ⟨_, rfl⟩
                  have HHS : Hid (hs = P.h.map (Value.int .u8)) := hhs
                  have hhl : hs.length = 32 := by rw [hhs, List.length_map, hpok.len]
                  rw [← hhs] at hPh
                  obtain ⟨vs, hvs⟩ : ∃ vs, vs = P.vs := ⟨_, rfl⟩
                  have HVS : Hid (vs = P.vs) := hvs
                  rw [← hvs] at hcellI hvl hrd hPh
                  obtain ⟨RB, hRB⟩ : ∃ RB, RB = (readK D.1.1 P).1 := ⟨_, rfl⟩
                  obtain ⟨ER, hER⟩ : ∃ ER, ER = (readK D.1.1 P).2 := ⟨_, rfl⟩
                  rw [← hRB, ← hER] at hrd hnev hrlen
                  have HNEV : Hid (ER = 0 → RB.length = 256 ∧ (shaOf RB = P.h ∨ P = Pt.zero)) := hnev
                  have HPJ : Hid (psI.getD j default = P) := hPe.symm
                  clear hRB hER hvs hhs hPe hve hok hjp hnev
                  by_cases he0 : ER = 0
                  · subst he0
                    have hl256 : RB.length = 256 := (HNEV.out rfl).1
                    have HNV : Hid (shaOf RB = P.h ∨ P = Pt.zero) := (HNEV.out rfl).2
                    clear HNEV
                    rw [hl256] at hrd
                    clear hrlen
                    go_wp2_with (first
                      | ((with_reducible show wpList _ _ _ (Oper.mk _ (Op.load 42 (.tmp 86)) _ _ _ _ :: _) _ _); refine wpList_load_cells (by rfl) (.tmp 86) 42 (by rfl) bq (j * 35) 35 (by rfl) agg_ptr size_ptr vs hcellI hvl ?_)
                      | (go_at_call 17; go_must (refine hrd.mono ?_); rintro e wq2 ⟨a5, c5, rfl, hN5, hb5⟩))
                    have hKq2 := hKq.stays hb5
                    have hPq2 := hPq.stays hb5
                    have hsum2 : ∀ u, Below wq2.heap.size wq2 u → Calls Tryd.prog 18 #[.slice a5 256 c5] u fun e w' => e = .returned (.agg ((shaOf RB).map (Value.int .u8)).toArray) ∧ Below u.heap.size u w' := fun u hu => by
                      have := sum_run a5 c5 _ u (hN5.1.stays hu) ((hKq2.stays hu).vars HV1.out) (by rw [hl256]; omega)
                      rw [hl256] at this
                      exact this
                    have hcq2 : ∀ u, Below wq2.heap.size wq2 u → ∀ m, m < 35 → u.cell? ⟨bq, j * 35 + m, none⟩ = vs[m]? := fun u hu m hm => by rw [HVS.out]; exact ((hPq2.stays hu).cells (i := j) (by rw [← HLI.out]; exact hltI) m hm).trans (by rw [HPJ.out])
                    have hldh : ∀ u, Below wq2.heap.size wq2 u → (Instr.loadAt 39 (.pointer (some ⟨bq, j * 35, none⟩))).run Tryd.prog u = .ok (.agg hs.toArray) u := fun u hu => run_load_cells agg_hsh size_hash (fun m hm => (hcq2 u hu m (by omega)).trans (hPh m hm)) hhl
                    have hldp : ∀ u, Below wq2.heap.size wq2 u → (Instr.loadAt 42 (.pointer (some ⟨bq, j * 35, none⟩))).run Tryd.prog u = .ok (.agg vs.toArray) u := fun u hu => run_load_cells agg_ptr size_ptr (hcq2 u hu) hvl
                    have heq := fun u => sum_equal P HPOK.out (shaOf RB) (shaOf_length _) u
                    rw [← HHS.out] at heq
                    obtain ⟨ss, hss⟩ : ∃ ss, ss = (shaOf RB).map (Value.int .u8) := ⟨_, rfl⟩
                    rw [← hss] at heq hsum2
                    by_cases hsame : (shaOf RB == P.h) = true
                    · rw [hsame] at heq
                      have HEQ : Hid (∀ u, (Op.equalIn 10000 39 (.agg ss.toArray) (.agg hs.toArray)).run Tryd.prog u = .ok true u) := heq
                      clear heq hss hcellI hrd hcq2 hPh hKq hPq hb5 hN5
                      refine UpT.wp_region_tail 24 (UpT.tell [(8, isV (.agg ss.toArray))]) (fun _ => false) (by kernel_rfl) (by kernel_rfl) (UpT.tell_steady _ (by
                        intro p hp
                        simp only [List.mem_cons, List.not_mem_nil, or_false] at hp
                        rcases hp with rfl <;> first | exact isV_steady _ | exact slB_steady _ _)) ?_
                      simp only [List.take_succ_cons, List.take_zero]
                      iterate 3 (apply UpT.wpUp_pure; (case hw => rfl); (case hψ => rfl); (case hv => (intro wz hp; clear hp; go_simp; try (with_reducible rfl))); simp only [Act.put, List.setIfInBounds_toArray, List.set_cons_zero, List.set_cons_succ])
                      iterate 5 (apply UpT.wpUp_pure; (case hw => rfl); (case hψ => rfl); (case hv => (intro wz hp; clear hp; go_simp; try (with_reducible rfl))); simp only [Act.put, List.setIfInBounds_toArray, List.set_cons_zero, List.set_cons_succ])
                      refine UpT.wpUp_call _ 18 #[.slice a5 256 c5] (by rfl) (by rfl) (by rfl) (fun wz => by go_simp) (fun wz hp => calls_isV (hsum2 wz hp.1)) ?_
                      rintro v ⟨u, _, hf⟩
                      obtain rfl := hf.of 8 v _ rfl rfl
                      clear hf
                      simp only [Act.put, List.setIfInBounds_toArray, List.set_cons_zero, List.set_cons_succ]
                      iterate 4 (apply UpT.wpUp_pure; (case hw => rfl); (case hψ => rfl); (case hv => (intro wz hp; clear hp; go_simp; try (with_reducible rfl))); simp only [Act.put, List.setIfInBounds_toArray, List.set_cons_zero, List.set_cons_succ])
                      refine UpT.wpUp_pure (.agg hs.toArray) (by rfl) (by rfl) (fun wz hp => exec_load (by rfl) (by rfl) (hldh wz hp.1)) ?_
                      simp only [Act.put, List.setIfInBounds_toArray, List.set_cons_zero, List.set_cons_succ]
                      have heq := HEQ.out
                      iterate 2 (apply UpT.wpUp_pure; (case hw => rfl); (case hψ => rfl); (case hv => (intro wz hp; clear hp; go_simp; try (with_reducible rfl))); simp only [Act.put, List.setIfInBounds_toArray, List.set_cons_zero, List.set_cons_succ])
                      iterate 6 (refine UpT.wpUp_pass (by rfl) ?_; simp only [Act.put, List.setIfInBounds_toArray, List.set_cons_zero, List.set_cons_succ])
                      iterate 2 (apply UpT.wpUp_pure; (case hw => rfl); (case hψ => rfl); (case hv => (intro wz hp; clear hp; go_simp; try (with_reducible rfl))); simp only [Act.put, List.setIfInBounds_toArray, List.set_cons_zero, List.set_cons_succ])
                      refine UpT.wpUp_end ?_
                      intro wq3 hb6 hf
                      clear hf
                      simp only [List.drop_succ_cons, List.drop_zero]
                      go_wp2
                      go_roundw
                      case rel => exact ⟨_, j + 1, rfl, by go_num, by omega, hKq2.stays hb6, hPq2.stays hb6⟩
                      case measure => simp [intOf]; omega
                    · have hsame' : (shaOf RB == P.h) = false := by simpa using hsame
                      rw [hsame'] at heq
                      have HEQ : Hid (∀ u, (Op.equalIn 10000 39 (.agg ss.toArray) (.agg hs.toArray)).run Tryd.prog u = .ok false u) := heq
                      have hz : P = Pt.zero := by
                        rcases HNV.out with h1 | h1
                        · exact absurd (by simpa using h1) hsame
                        · exact h1
                      have HPEQ : Hid (∀ u, (Op.equalIn 10000 42 (.agg vs.toArray) (.agg zp.toArray)).run Tryd.prog u = .ok true u) := by
                        show ∀ u, _
                        intro u
                        rw [HVS.out, HZP.out, ptr_zero_equal P HPOK.out u, hz]
                        rfl
                      clear heq hss hcellI hrd hcq2 hPh hKq hPq hb5 hN5 hz hsame hsame'
                      refine UpT.wp_region_tail 24 (UpT.tell [(8, isV (.agg ss.toArray))]) (fun _ => false) (by kernel_rfl) (by kernel_rfl) (UpT.tell_steady _ (by
                        intro p hp
                        simp only [List.mem_cons, List.not_mem_nil, or_false] at hp
                        rcases hp with rfl <;> first | exact isV_steady _ | exact slB_steady _ _)) ?_
                      simp only [List.take_succ_cons, List.take_zero]
                      iterate 3 (apply UpT.wpUp_pure; (case hw => rfl); (case hψ => rfl); (case hv => (intro wz hp; clear hp; go_simp; try (with_reducible rfl))); simp only [Act.put, List.setIfInBounds_toArray, List.set_cons_zero, List.set_cons_succ])
                      iterate 5 (apply UpT.wpUp_pure; (case hw => rfl); (case hψ => rfl); (case hv => (intro wz hp; clear hp; go_simp; try (with_reducible rfl))); simp only [Act.put, List.setIfInBounds_toArray, List.set_cons_zero, List.set_cons_succ])
                      refine UpT.wpUp_call _ 18 #[.slice a5 256 c5] (by rfl) (by rfl) (by rfl) (fun wz => by go_simp) (fun wz hp => calls_isV (hsum2 wz hp.1)) ?_
                      rintro v ⟨u, _, hf⟩
                      obtain rfl := hf.of 8 v _ rfl rfl
                      clear hf
                      simp only [Act.put, List.setIfInBounds_toArray, List.set_cons_zero, List.set_cons_succ]
                      iterate 4 (apply UpT.wpUp_pure; (case hw => rfl); (case hψ => rfl); (case hv => (intro wz hp; clear hp; go_simp; try (with_reducible rfl))); simp only [Act.put, List.setIfInBounds_toArray, List.set_cons_zero, List.set_cons_succ])
                      refine UpT.wpUp_pure (.agg hs.toArray) (by rfl) (by rfl) (fun wz hp => exec_load (by rfl) (by rfl) (hldh wz hp.1)) ?_
                      simp only [Act.put, List.setIfInBounds_toArray, List.set_cons_zero, List.set_cons_succ]
                      have heq := HEQ.out
                      iterate 2 (apply UpT.wpUp_pure; (case hw => rfl); (case hψ => rfl); (case hv => (intro wz hp; clear hp; go_simp; try (with_reducible rfl))); simp only [Act.put, List.setIfInBounds_toArray, List.set_cons_zero, List.set_cons_succ])
                      iterate 3 (apply UpT.wpUp_pure; (case hw => rfl); (case hψ => rfl); (case hv => (intro wz hp; clear hp; go_simp; try (with_reducible rfl))); simp only [Act.put, List.setIfInBounds_toArray, List.set_cons_zero, List.set_cons_succ])
                      refine UpT.wpUp_pure (.agg vs.toArray) (by rfl) (by rfl) (fun wz hp => exec_load (by rfl) (by rfl) (hldp wz hp.1)) ?_
                      simp only [Act.put, List.setIfInBounds_toArray, List.set_cons_zero, List.set_cons_succ]
                      refine UpT.wpUp_pure (.agg zp.toArray) (by rfl) (by rfl) (fun wz hp => exec_build0 (by rfl) (HBUP.out wz)) ?_
                      simp only [Act.put, List.setIfInBounds_toArray, List.set_cons_zero, List.set_cons_succ]
                      have hpeq := HPEQ.out
                      iterate 3 (apply UpT.wpUp_pure; (case hw => rfl); (case hψ => rfl); (case hv => (intro wz hp; clear hp; go_simp; try (with_reducible rfl))); simp only [Act.put, List.setIfInBounds_toArray, List.set_cons_zero, List.set_cons_succ])
                      refine UpT.wpUp_end ?_
                      intro wq3 hb6 hf
                      clear hf
                      simp only [List.drop_succ_cons, List.drop_zero]
                      go_wp2
                      go_roundw
                      case rel => exact ⟨_, j + 1, rfl, by go_num, by omega, hKq2.stays hb6, hPq2.stays hb6⟩
                      case measure => simp [intOf]; omega
                  · have heb : (ER == 0) = false := by simp [he0]
                    have heb2 : decide (ER = 0) = false := by simp [he0]
                    rcases hrlen with hrl | hrl
                    · exact absurd hrl.1 he0
                    rw [hrl.2] at hrd
                    simp only [List.length_nil] at hrd
                    go_wp2_with (first
                      | ((with_reducible show wpList _ _ _ (Oper.mk _ (Op.load 42 (.tmp 86)) _ _ _ _ :: _) _ _); refine wpList_load_cells (by rfl) (.tmp 86) 42 (by rfl) bq (j * 35) 35 (by rfl) agg_ptr size_ptr vs hcellI hvl ?_)
                      | (go_at_call 17; go_must (refine hrd.mono ?_); rintro e wq2 ⟨a5, c5, rfl, hN5, hb5⟩))
                    have hKq2 := hKq.stays hb5
                    have hPq2 := hPq.stays hb5
                    obtain ⟨ss, hss⟩ : ∃ ss : List Value, ss = [] := ⟨_, rfl⟩
                    clear hss hcellI hrd hPh hKq hPq hb5 hN5
                    refine UpT.wp_region_tail 24 (UpT.tell [(8, isV (.agg ss.toArray))]) (fun _ => false) (by kernel_rfl) (by kernel_rfl) (UpT.tell_steady _ (by
                      intro p hp
                      simp only [List.mem_cons, List.not_mem_nil, or_false] at hp
                      rcases hp with rfl <;> first | exact isV_steady _ | exact slB_steady _ _)) ?_
                    simp only [List.take_succ_cons, List.take_zero]
                    iterate 3 (apply UpT.wpUp_pure; (case hw => rfl); (case hψ => rfl); (case hv => (intro wz hp; clear hp; go_simp; try (with_reducible rfl))); simp only [Act.put, List.setIfInBounds_toArray, List.set_cons_zero, List.set_cons_succ])
                    iterate 21 (refine UpT.wpUp_pass (by rfl) ?_; simp only [Act.put, List.setIfInBounds_toArray, List.set_cons_zero, List.set_cons_succ])
                    refine UpT.wpUp_end ?_
                    intro wq3 hb6 hf
                    clear hf
                    simp only [List.drop_succ_cons, List.drop_zero]
                    go_wp2
                    go_roundw
                    case rel => exact ⟨_, j + 1, rfl, by go_num, by omega, hKq2.stays hb6, hPq2.stays hb6⟩
                    case measure => simp [intOf]; omega
                · have hq7 : decide ((j : Int) < (LI : Int)) = false := by simp; omega
                  go_wp2
                  go_roundw
                  case rel => exact ⟨i + 1, D.1.1, D.1.2, psI, by go_num, by omega, by omega, hPq, hKq, HSI⟩
                  case measure => simp [intOf]; omega
          · have hkk1 : (kd == 1) = false := by simp [hk1]
            have hkk2 : decide (kd = 1) = false := by simp [hk1]
            go_wp2_with (first
              | ((with_reducible show wpList _ _ _ (Oper.mk _ (Op.load 45 (.tmp 35)) _ _ _ _ :: _) _ _); refine wpList_load_cells (by rfl) (.tmp 35) 45 (by rfl) b (off + i * 40) 40 (by rfl) agg_actK size_actK av hcA hal40 ?_)
              | ((with_reducible show wpList _ _ _ (Oper.mk (some 9) (Op.alloc 45) _ _ _ _ :: _) _ _); refine wpList_alloc0 (by rfl) 45 (by rfl) (some 9) (by rfl) _ HALA.out ?_; intro wa hAa hba hsa
                 have hPa := hPr'.stays hba
                 have hKa := hKr'.new (N := fun j => rowOf (.slice (some ⟨bp, 0, none⟩) L pc) j ∨ j = wr.heap.size) hba (fun j hj => hj.imp id (fun e => by rw [e]; exact ⟨Nat.le_refl _, by omega⟩))
                 have hnrA : ¬ rowOf (.slice (some ⟨bp, 0, none⟩) L pc) wr.heap.size := fun hj => by have := (hPr'.lt hj).2; omega)
              | ((with_reducible show wpList _ _ _ (Oper.mk _ (Op.store 45 (.tmp 9) _) _ _ _ _ :: _) _ _); refine wpList_store_blk (by rfl) (.tmp 9) (.tmp 36) 45 (by rfl) _ 0 40 (by rfl) av (by rfl) size_actK hAa hal40 (by omega) halo _ (whole_store hzal) ?_
                 intro wb hAb hbutb hsb
                 have hKb := hKa.set hbutb (.inr rfl) hKr'.bel.size
                 have hPb := hPa.but hbutb hnrA
                 have HSB : Hid (wb.heap.size = wr.heap.size + 1) := by show _ = _; omega
                 have hc39 : wb.cell? ⟨wr.heap.size, 39, none⟩ = some (.slice X.ba nb X.bc) := (hAb.cell 39).trans HC.out.2.2.2.2
                 clear hsa hsb hAa hba hPa hKa hbutb)
              | ((with_reducible show wpList _ _ _ (Oper.mk _ (Op.load 42 (.tmp 41)) _ _ _ _ :: _) _ _); refine wpList_load_blk (by rfl) (.tmp 41) 42 (by rfl) _ 4 35 (by rfl) agg_ptr size_ptr hAb xv HXP.out hxvl ?_)
              | ((with_reducible show wpList _ _ _ (Oper.mk (some 10) (Op.alloc 42) _ _ _ _ :: _) _ _); refine wpList_alloc0 (by rfl) 42 (by rfl) (some 10) (by rfl) _ HALP.out ?_; intro wc hQc hbc hsc
                 have hAc := hAb.stays hbc
                 have hPc := hPb.stays hbc
                 have hKc := hKb.new (N := fun j => (rowOf (.slice (some ⟨bp, 0, none⟩) L pc) j ∨ j = wr.heap.size) ∨ j = wb.heap.size) hbc (fun j hj => hj.imp id (fun e => by rw [e]; exact ⟨Nat.le_refl _, by omega⟩))
                 have hnrQ : ¬ rowOf (.slice (some ⟨bp, 0, none⟩) L pc) wb.heap.size := fun hj => by have := (hPb.lt hj).2; omega)
              | ((with_reducible show wpList _ _ _ (Oper.mk _ (Op.store 42 (.tmp 10) (.tmp 42)) _ _ _ _ :: _) _ _); refine wpList_store_blk (by rfl) (.tmp 10) (.tmp 42) 42 (by rfl) _ 0 35 (by rfl) xv (by rfl) size_ptr hQc hxvl (by omega) hxvo _ (whole_store hzpl) ?_
                 intro wd hQd hbutd hsd
                 have hAd := hAc.but hbutd (by have := HSB.out; omega)
                 have hPd := hPc.but hbutd hnrQ
                 have hKd := hKc.set hbutd (.inr rfl) (by have := hKb.bel.size; omega)
                 have hc2 : wd.cell? ⟨wr.heap.size, 2, none⟩ = some (.int .i64 (m : Int)) := (hAd.cell 2).trans HC.out.2.2.1
                 clear hAc hPc hKc hbutd hQc hbc hsc hsd hc39
                 have hcP := hPd.cells (i := m) (by rw [← HL.out]; exact hmL)
                 rw [HQE.out, ← HQV.out] at hcP)
              | ((with_reducible show wpList _ _ _ (Oper.mk _ (Op.load 42 (.tmp 56)) _ _ _ _ :: _) _ _); refine wpList_load_cells (by rfl) (.tmp 56) 42 (by rfl) bp (m * 35) 35 (by rfl) agg_ptr size_ptr qv hcP hqvl ?_)
              | ((with_reducible show wpList _ _ _ (Oper.mk _ (Op.store 42 (.tmp 10) (.tmp 57)) _ _ _ _ :: _) _ _); refine wpList_store_blk (by rfl) (.tmp 10) (.tmp 57) 42 (by rfl) _ 0 35 (by rfl) qv (by rfl) size_ptr hQd hqvl (by omega) hqvo _ (whole_store hxvl) ?_
                 intro we hQe hbute hse
                 have hAe := hAd.but hbute (by have := HSB.out; omega)
                 have hPe := hPd.but hbute hnrQ
                 have hKe := hKd.set hbute (.inr rfl) (by have := hKb.bel.size; omega)
                 clear hse hbute hcP
                 have hdo := do_run hKe HV1.out HSL.out X HXO.out HXL.out Q HQOK.out
                 rw [← HD.out, ← HAV.out, ← HQV.out, ← HTV.out] at hdo)
              | ((with_reducible show wpList _ _ _ (Oper.mk _ (Op.load 45 (.tmp 9)) _ _ _ _ :: _) _ _); refine wpList_load_blk (by rfl) (.tmp 9) 45 (by rfl) _ 0 40 (by rfl) agg_actK size_actK hAe _ (whole_load hal40) hal40 ?_)
              | ((with_reducible show wpList _ _ _ (Oper.mk _ (Op.load 42 (.tmp 10)) _ _ _ _ :: _) _ _); refine wpList_load_blk (by rfl) (.tmp 10) 42 (by rfl) _ 0 35 (by rfl) agg_ptr size_ptr hQe _ (whole_load hqvl) hqvl ?_)
              | (go_at_call 7; go_must (refine hdo.mono ?_); rintro e wf ⟨rfl, hKf, hyf⟩
                 have hAf := hyf.blk hAe (.inl (.inr rfl))
                 have hPf := hPe.stay hyf (fun j hj => .inl (.inl hj))
                 have hKf' := hKf.less (N := rowOf (.slice (some ⟨bp, 0, none⟩) L pc)) (fun j hj => .inl (.inl hj))
                 have hnrT : ¬ rowOf (.slice (some ⟨bp, 0, none⟩) L pc) wf.heap.size := fun hj => by have := (hPf.lt hj).2; omega
                 have hltA := hAf.lt
                 dsimp only []
                 apply_assumption
                 refine wpList_alloc0 (by rfl) 49 (by rfl) (some 11) (by rfl) _ HALT.out ?_
                 intro wg hTg hbg hsg
                 have hAg := hAf.stays hbg
                 have hPg := hPf.stays hbg
                 have hKg := hKf'.new (N := fun j => rowOf (.slice (some ⟨bp, 0, none⟩) L pc) j ∨ j = wf.heap.size) hbg (fun j hj => hj.imp id (fun e => by rw [e]; exact ⟨Nat.le_refl _, by omega⟩))
                 refine wpList_store_blk (by rfl) (.tmp 11) (.tmp 62) 49 (by rfl) _ 0 40 (by rfl) tv (by rfl) size_told hTg htvl (by omega) htvo _ (whole_store hztl) ?_
                 intro wh' hTh hbuth hsh
                 have hAh := hAg.but hbuth (by omega)
                 have hPh' := hPg.but hbuth hnrT
                 have hKh := (hKg.set hbuth (.inr rfl) hKf.bel.size).less (N := rowOf (.slice (some ⟨bp, 0, none⟩) L pc)) (fun j hj => .inl hj)
                 have hc0 : wh'.cell? ⟨wr.heap.size, 0, none⟩ = some (.int .i64 kd) := (hAh.cell 0).trans HC.out.1
                 have hce : wh'.cell? ⟨wf.heap.size, 39, none⟩ = some (.int .i64 ev) := (hTh.cell 39).trans HTE.out
                 clear hKf hyf hAf hPf hKf' hltA hAg hPg hKg hbg hsg hTg hsh hbuth hAe hPe hKe hQe hdo hc2))
            obtain ⟨vI, hvI⟩ : ∃ vI, vI = Value.slice (some ⟨bp, 0, none⟩) L pc := ⟨_, rfl⟩
            rw [← hvI] at hPh' hKh ⊢
            clear hvI
            obtain ⟨ia, ic, rfl⟩ := hPh'.form
            obtain ⟨LI, hLI⟩ : ∃ LI, LI = (ps).length := ⟨_, rfl⟩
            have HLI : Hid (LI = (ps).length) := hLI
            have hPI : Plist w1.heap.size wh' (.slice ia LI ic) (ps) := by rw [hLI]; exact hPh'
            have hKI : BS w1 wh' (rowOf (.slice ia LI ic)) k p g D.1.1 D.1.2 7 := by rw [hLI]; exact hKh
            obtain ⟨psI, hpsI⟩ : ∃ psI, psI = ps := ⟨_, rfl⟩
            rw [← hpsI] at hPI HLI
            rw [← hLI]
            have HSI : Hid (D.1.1.ws.length ≤ 8 * (i + 1) ∧ psI.length ≤ (i + 1) + 1) := by show _ ∧ _; rw [hpsI]; have := HS.out; have := HDL.out; exact ⟨by omega, by omega⟩
            clear hLI hpsI hPh' hKh
            have hLI31 : LI ≤ 31 := by have h1 := HSI.out.2; have h2 := HLI.out; omega
            go_wp2
            go_loopw [12] (fun x wq => ∃ (q : World) (j : Nat), q = wq ∧ x = .int .i64 j ∧ j ≤ LI ∧ BS w1 wq (rowOf (.slice ia LI ic)) k p g D.1.1 D.1.2 7 ∧ Plist w1.heap.size wq (.slice ia LI ic) psI) (fun x _ => LI - (intOf x).toNat)
            case atStart => exact ⟨_, 0, rfl, rfl, by omega, hKI, hPI⟩
            case round =>
              clear hKI hPI
              have hrelI := hrel
              clear hrel
              obtain ⟨wq, j, rfl, rfl, hjL, hKq, hPq⟩ := hrelI
              by_cases hltI : j < LI
              · have hq7 : decide ((j : Int) < (LI : Int)) = true := by simp; omega
                have hjp : j < psI.length := by rw [← HLI.out]; exact hltI
                obtain ⟨bq, cb, hve, hrb, hcellI, hpok⟩ := hPq.at (i := j) hjp
                have hcv : ia = some ⟨bq, 0, none⟩ := by simp only [Value.slice.injEq] at hve; exact hve.1
                subst hcv
                have hixI : ∀ u : World, (Instr.indexAt 38 (.slice (some ⟨bq, 0, none⟩) LI ic) (.int .i64 (j : Int))).run Tryd.prog u = .ok (.pointer (some ⟨bq, j * 35, none⟩)) u := fun u => index_ptrs bq LI ic j hltI u
                obtain ⟨P, hPe⟩ : ∃ P, P = psI.getD j default := ⟨_, rfl⟩
                rw [← hPe] at hcellI hpok
                have HPOK : Hid P.ok := hpok
                have hvl : P.vs.length = 35 := Pt.vs_len hpok
                obtain ⟨nS, hok⟩ := hKq.ok
                have hnev := read_never hok P
                have hrlen := readK_len hok P
                have HSLI : Hid (D.1.1.ws.length ≤ 800000) := by show _ ≤ _; have := HSI.out; omega
                have hrd := bs_read hKq HV1.out HSLI.out P hpok
                have hPh := Pt.at_h hpok
                obtain ⟨hs, hhs⟩ : ∃ hs, hs = P.h.map (Value.int .u8) := ⟨_, rfl⟩
                have HHS : Hid (hs = P.h.map (Value.int .u8)) := hhs
                have hhl : hs.length = 32 := by rw [hhs, List.length_map, hpok.len]
                rw [← hhs] at hPh
                obtain ⟨vs, hvs⟩ : ∃ vs, vs = P.vs := ⟨_, rfl⟩
                have HVS : Hid (vs = P.vs) := hvs
                rw [← hvs] at hcellI hvl hrd hPh
                obtain ⟨RB, hRB⟩ : ∃ RB, RB = (readK D.1.1 P).1 := ⟨_, rfl⟩
                obtain ⟨ER, hER⟩ : ∃ ER, ER = (readK D.1.1 P).2 := ⟨_, rfl⟩
                rw [← hRB, ← hER] at hrd hnev hrlen
                have HNEV : Hid (ER = 0 → RB.length = 256 ∧ (shaOf RB = P.h ∨ P = Pt.zero)) := hnev
                have HPJ : Hid (psI.getD j default = P) := hPe.symm
                clear hRB hER hvs hhs hPe hve hok hjp hnev
                by_cases he0 : ER = 0
                · subst he0
                  have hl256 : RB.length = 256 := (HNEV.out rfl).1
                  have HNV : Hid (shaOf RB = P.h ∨ P = Pt.zero) := (HNEV.out rfl).2
                  clear HNEV
                  rw [hl256] at hrd
                  clear hrlen
                  go_wp2_with (first
                    | ((with_reducible show wpList _ _ _ (Oper.mk _ (Op.load 42 (.tmp 86)) _ _ _ _ :: _) _ _); refine wpList_load_cells (by rfl) (.tmp 86) 42 (by rfl) bq (j * 35) 35 (by rfl) agg_ptr size_ptr vs hcellI hvl ?_)
                    | (go_at_call 17; go_must (refine hrd.mono ?_); rintro e wq2 ⟨a5, c5, rfl, hN5, hb5⟩))
                  have hKq2 := hKq.stays hb5
                  have hPq2 := hPq.stays hb5
                  have hsum2 : ∀ u, Below wq2.heap.size wq2 u → Calls Tryd.prog 18 #[.slice a5 256 c5] u fun e w' => e = .returned (.agg ((shaOf RB).map (Value.int .u8)).toArray) ∧ Below u.heap.size u w' := fun u hu => by
                    have := sum_run a5 c5 _ u (hN5.1.stays hu) ((hKq2.stays hu).vars HV1.out) (by rw [hl256]; omega)
                    rw [hl256] at this
                    exact this
                  have hcq2 : ∀ u, Below wq2.heap.size wq2 u → ∀ m, m < 35 → u.cell? ⟨bq, j * 35 + m, none⟩ = vs[m]? := fun u hu m hm => by rw [HVS.out]; exact ((hPq2.stays hu).cells (i := j) (by rw [← HLI.out]; exact hltI) m hm).trans (by rw [HPJ.out])
                  have hldh : ∀ u, Below wq2.heap.size wq2 u → (Instr.loadAt 39 (.pointer (some ⟨bq, j * 35, none⟩))).run Tryd.prog u = .ok (.agg hs.toArray) u := fun u hu => run_load_cells agg_hsh size_hash (fun m hm => (hcq2 u hu m (by omega)).trans (hPh m hm)) hhl
                  have hldp : ∀ u, Below wq2.heap.size wq2 u → (Instr.loadAt 42 (.pointer (some ⟨bq, j * 35, none⟩))).run Tryd.prog u = .ok (.agg vs.toArray) u := fun u hu => run_load_cells agg_ptr size_ptr (hcq2 u hu) hvl
                  have heq := fun u => sum_equal P HPOK.out (shaOf RB) (shaOf_length _) u
                  rw [← HHS.out] at heq
                  obtain ⟨ss, hss⟩ : ∃ ss, ss = (shaOf RB).map (Value.int .u8) := ⟨_, rfl⟩
                  rw [← hss] at heq hsum2
                  by_cases hsame : (shaOf RB == P.h) = true
                  · rw [hsame] at heq
                    have HEQ : Hid (∀ u, (Op.equalIn 10000 39 (.agg ss.toArray) (.agg hs.toArray)).run Tryd.prog u = .ok true u) := heq
                    clear heq hss hcellI hrd hcq2 hPh hKq hPq hb5 hN5
                    refine UpT.wp_region_tail 24 (UpT.tell [(8, isV (.agg ss.toArray))]) (fun _ => false) (by kernel_rfl) (by kernel_rfl) (UpT.tell_steady _ (by
                      intro p hp
                      simp only [List.mem_cons, List.not_mem_nil, or_false] at hp
                      rcases hp with rfl <;> first | exact isV_steady _ | exact slB_steady _ _)) ?_
                    simp only [List.take_succ_cons, List.take_zero]
                    iterate 3 (apply UpT.wpUp_pure; (case hw => rfl); (case hψ => rfl); (case hv => (intro wz hp; clear hp; go_simp; try (with_reducible rfl))); simp only [Act.put, List.setIfInBounds_toArray, List.set_cons_zero, List.set_cons_succ])
                    iterate 5 (apply UpT.wpUp_pure; (case hw => rfl); (case hψ => rfl); (case hv => (intro wz hp; clear hp; go_simp; try (with_reducible rfl))); simp only [Act.put, List.setIfInBounds_toArray, List.set_cons_zero, List.set_cons_succ])
                    refine UpT.wpUp_call _ 18 #[.slice a5 256 c5] (by rfl) (by rfl) (by rfl) (fun wz => by go_simp) (fun wz hp => calls_isV (hsum2 wz hp.1)) ?_
                    rintro v ⟨u, _, hf⟩
                    obtain rfl := hf.of 8 v _ rfl rfl
                    clear hf
                    simp only [Act.put, List.setIfInBounds_toArray, List.set_cons_zero, List.set_cons_succ]
                    iterate 4 (apply UpT.wpUp_pure; (case hw => rfl); (case hψ => rfl); (case hv => (intro wz hp; clear hp; go_simp; try (with_reducible rfl))); simp only [Act.put, List.setIfInBounds_toArray, List.set_cons_zero, List.set_cons_succ])
                    refine UpT.wpUp_pure (.agg hs.toArray) (by rfl) (by rfl) (fun wz hp => exec_load (by rfl) (by rfl) (hldh wz hp.1)) ?_
                    simp only [Act.put, List.setIfInBounds_toArray, List.set_cons_zero, List.set_cons_succ]
                    have heq := HEQ.out
                    iterate 2 (apply UpT.wpUp_pure; (case hw => rfl); (case hψ => rfl); (case hv => (intro wz hp; clear hp; go_simp; try (with_reducible rfl))); simp only [Act.put, List.setIfInBounds_toArray, List.set_cons_zero, List.set_cons_succ])
                    iterate 6 (refine UpT.wpUp_pass (by rfl) ?_; simp only [Act.put, List.setIfInBounds_toArray, List.set_cons_zero, List.set_cons_succ])
                    iterate 2 (apply UpT.wpUp_pure; (case hw => rfl); (case hψ => rfl); (case hv => (intro wz hp; clear hp; go_simp; try (with_reducible rfl))); simp only [Act.put, List.setIfInBounds_toArray, List.set_cons_zero, List.set_cons_succ])
                    refine UpT.wpUp_end ?_
                    intro wq3 hb6 hf
                    clear hf
                    simp only [List.drop_succ_cons, List.drop_zero]
                    go_wp2
                    go_roundw
                    case rel => exact ⟨_, j + 1, rfl, by go_num, by omega, hKq2.stays hb6, hPq2.stays hb6⟩
                    case measure => simp [intOf]; omega
                  · have hsame' : (shaOf RB == P.h) = false := by simpa using hsame
                    rw [hsame'] at heq
                    have HEQ : Hid (∀ u, (Op.equalIn 10000 39 (.agg ss.toArray) (.agg hs.toArray)).run Tryd.prog u = .ok false u) := heq
                    have hz : P = Pt.zero := by
                      rcases HNV.out with h1 | h1
                      · exact absurd (by simpa using h1) hsame
                      · exact h1
                    have HPEQ : Hid (∀ u, (Op.equalIn 10000 42 (.agg vs.toArray) (.agg zp.toArray)).run Tryd.prog u = .ok true u) := by
                      show ∀ u, _
                      intro u
                      rw [HVS.out, HZP.out, ptr_zero_equal P HPOK.out u, hz]
                      rfl
                    clear heq hss hcellI hrd hcq2 hPh hKq hPq hb5 hN5 hz hsame hsame'
                    refine UpT.wp_region_tail 24 (UpT.tell [(8, isV (.agg ss.toArray))]) (fun _ => false) (by kernel_rfl) (by kernel_rfl) (UpT.tell_steady _ (by
                      intro p hp
                      simp only [List.mem_cons, List.not_mem_nil, or_false] at hp
                      rcases hp with rfl <;> first | exact isV_steady _ | exact slB_steady _ _)) ?_
                    simp only [List.take_succ_cons, List.take_zero]
                    iterate 3 (apply UpT.wpUp_pure; (case hw => rfl); (case hψ => rfl); (case hv => (intro wz hp; clear hp; go_simp; try (with_reducible rfl))); simp only [Act.put, List.setIfInBounds_toArray, List.set_cons_zero, List.set_cons_succ])
                    iterate 5 (apply UpT.wpUp_pure; (case hw => rfl); (case hψ => rfl); (case hv => (intro wz hp; clear hp; go_simp; try (with_reducible rfl))); simp only [Act.put, List.setIfInBounds_toArray, List.set_cons_zero, List.set_cons_succ])
                    refine UpT.wpUp_call _ 18 #[.slice a5 256 c5] (by rfl) (by rfl) (by rfl) (fun wz => by go_simp) (fun wz hp => calls_isV (hsum2 wz hp.1)) ?_
                    rintro v ⟨u, _, hf⟩
                    obtain rfl := hf.of 8 v _ rfl rfl
                    clear hf
                    simp only [Act.put, List.setIfInBounds_toArray, List.set_cons_zero, List.set_cons_succ]
                    iterate 4 (apply UpT.wpUp_pure; (case hw => rfl); (case hψ => rfl); (case hv => (intro wz hp; clear hp; go_simp; try (with_reducible rfl))); simp only [Act.put, List.setIfInBounds_toArray, List.set_cons_zero, List.set_cons_succ])
                    refine UpT.wpUp_pure (.agg hs.toArray) (by rfl) (by rfl) (fun wz hp => exec_load (by rfl) (by rfl) (hldh wz hp.1)) ?_
                    simp only [Act.put, List.setIfInBounds_toArray, List.set_cons_zero, List.set_cons_succ]
                    have heq := HEQ.out
                    iterate 2 (apply UpT.wpUp_pure; (case hw => rfl); (case hψ => rfl); (case hv => (intro wz hp; clear hp; go_simp; try (with_reducible rfl))); simp only [Act.put, List.setIfInBounds_toArray, List.set_cons_zero, List.set_cons_succ])
                    iterate 3 (apply UpT.wpUp_pure; (case hw => rfl); (case hψ => rfl); (case hv => (intro wz hp; clear hp; go_simp; try (with_reducible rfl))); simp only [Act.put, List.setIfInBounds_toArray, List.set_cons_zero, List.set_cons_succ])
                    refine UpT.wpUp_pure (.agg vs.toArray) (by rfl) (by rfl) (fun wz hp => exec_load (by rfl) (by rfl) (hldp wz hp.1)) ?_
                    simp only [Act.put, List.setIfInBounds_toArray, List.set_cons_zero, List.set_cons_succ]
                    refine UpT.wpUp_pure (.agg zp.toArray) (by rfl) (by rfl) (fun wz hp => exec_build0 (by rfl) (HBUP.out wz)) ?_
                    simp only [Act.put, List.setIfInBounds_toArray, List.set_cons_zero, List.set_cons_succ]
                    have hpeq := HPEQ.out
                    iterate 3 (apply UpT.wpUp_pure; (case hw => rfl); (case hψ => rfl); (case hv => (intro wz hp; clear hp; go_simp; try (with_reducible rfl))); simp only [Act.put, List.setIfInBounds_toArray, List.set_cons_zero, List.set_cons_succ])
                    refine UpT.wpUp_end ?_
                    intro wq3 hb6 hf
                    clear hf
                    simp only [List.drop_succ_cons, List.drop_zero]
                    go_wp2
                    go_roundw
                    case rel => exact ⟨_, j + 1, rfl, by go_num, by omega, hKq2.stays hb6, hPq2.stays hb6⟩
                    case measure => simp [intOf]; omega
                · have heb : (ER == 0) = false := by simp [he0]
                  have heb2 : decide (ER = 0) = false := by simp [he0]
                  rcases hrlen with hrl | hrl
                  · exact absurd hrl.1 he0
                  rw [hrl.2] at hrd
                  simp only [List.length_nil] at hrd
                  go_wp2_with (first
                    | ((with_reducible show wpList _ _ _ (Oper.mk _ (Op.load 42 (.tmp 86)) _ _ _ _ :: _) _ _); refine wpList_load_cells (by rfl) (.tmp 86) 42 (by rfl) bq (j * 35) 35 (by rfl) agg_ptr size_ptr vs hcellI hvl ?_)
                    | (go_at_call 17; go_must (refine hrd.mono ?_); rintro e wq2 ⟨a5, c5, rfl, hN5, hb5⟩))
                  have hKq2 := hKq.stays hb5
                  have hPq2 := hPq.stays hb5
                  obtain ⟨ss, hss⟩ : ∃ ss : List Value, ss = [] := ⟨_, rfl⟩
                  clear hss hcellI hrd hPh hKq hPq hb5 hN5
                  refine UpT.wp_region_tail 24 (UpT.tell [(8, isV (.agg ss.toArray))]) (fun _ => false) (by kernel_rfl) (by kernel_rfl) (UpT.tell_steady _ (by
                    intro p hp
                    simp only [List.mem_cons, List.not_mem_nil, or_false] at hp
                    rcases hp with rfl <;> first | exact isV_steady _ | exact slB_steady _ _)) ?_
                  simp only [List.take_succ_cons, List.take_zero]
                  iterate 3 (apply UpT.wpUp_pure; (case hw => rfl); (case hψ => rfl); (case hv => (intro wz hp; clear hp; go_simp; try (with_reducible rfl))); simp only [Act.put, List.setIfInBounds_toArray, List.set_cons_zero, List.set_cons_succ])
                  iterate 21 (refine UpT.wpUp_pass (by rfl) ?_; simp only [Act.put, List.setIfInBounds_toArray, List.set_cons_zero, List.set_cons_succ])
                  refine UpT.wpUp_end ?_
                  intro wq3 hb6 hf
                  clear hf
                  simp only [List.drop_succ_cons, List.drop_zero]
                  go_wp2
                  go_roundw
                  case rel => exact ⟨_, j + 1, rfl, by go_num, by omega, hKq2.stays hb6, hPq2.stays hb6⟩
                  case measure => simp [intOf]; omega
              · have hq7 : decide ((j : Int) < (LI : Int)) = false := by simp; omega
                go_wp2
                go_roundw
                case rel => exact ⟨i + 1, D.1.1, D.1.2, psI, by go_num, by omega, by omega, hPq, hKq, HSI⟩
                case measure => simp [intOf]; omega
        · by_cases hlow : wh < 0
          · clear hin
            have hw1 : decide ((0 : Int) ≤ wh) = false := by simp; omega
            obtain ⟨Q, hQe'⟩ : ∃ Q, Q = X.p := ⟨_, rfl⟩
            have hqok : Q.ok := by rw [hQe']; exact HXO.out.p
            obtain ⟨qv, hqv⟩ : ∃ qv, qv = Q.vs := ⟨_, rfl⟩
            have HXQ : Hid (xv = qv) := by show _ = _; rw [HXV.out, hqv, hQe']
            clear hQe'
            have HQV : Hid (qv = Q.vs) := hqv
            have hqvl : qv.length = 35 := by rw [hqv]; exact Pt.vs_len hqok
            have hqvo : ∀ v ∈ qv, v.oneCell' = true := by rw [hqv]; exact Pt.vs_one _
            have HQOK : Hid Q.ok := hqok
            have htok := doK_tok hKr' X Q
            have hdl := doK_len S l X Q
            obtain ⟨D, hD⟩ : ∃ D, D = doK S l X Q := ⟨_, rfl⟩
            have HD : Hid (D = doK S l X Q) := hD
            rw [← hD] at htok hdl
            have HTOK : Hid D.2.p.ok := htok
            have HDL : Hid (D.1.1.ws.length ≤ S.ws.length + 8) := hdl
            obtain ⟨tv, htv⟩ : ∃ tv, tv = D.2.vs := ⟨_, rfl⟩
            have HTV : Hid (tv = D.2.vs) := htv
            have htvl : tv.length = 40 := by rw [htv]; exact Told.vs_len htok
            have htvo : ∀ v ∈ tv, v.oneCell' = true := by rw [htv]; exact Told.vs_one _
            obtain ⟨ev, hev⟩ : ∃ ev, ev = D.2.e := ⟨_, rfl⟩
            have HTE : Hid (tv[39]? = some (.int .i64 ev)) := by rw [htv, hev]; exact Told.at_e htok
            obtain ⟨tpv, htpv⟩ : ∃ tpv, tpv = D.2.p.vs := ⟨_, rfl⟩
            have HTPV : Hid (tpv = D.2.p.vs) := htpv
            have HTP : Hid (tpv = (tv.drop 0).take 35) := by rw [htpv, htv]; exact Told.at_p htok
            have htpl : tpv.length = 35 := by rw [htpv]; exact Pt.vs_len htok
            have HONE : Hid (∀ w : World, (Instr.buildSlice 38 1 [(0, Value.agg tpv.toArray)].toArray).run Tryd.prog w = .ok (.slice (some ⟨w.heap.size, 0, none⟩) 1 1) (w.alloc (.cells tpv.toArray 42))) := by rw [htpv]; exact run_onep D.2.p htok
            clear hqok hD htok hdl htv hev htpv hqv
            by_cases hk1 : kd = 1
            · subst hk1
              by_cases he1 : ev = 0
              · subst he1
                go_wp2_with (first
                  | ((with_reducible show wpList _ _ _ (Oper.mk _ (Op.load 45 (.tmp 35)) _ _ _ _ :: _) _ _); refine wpList_load_cells (by rfl) (.tmp 35) 45 (by rfl) b (off + i * 40) 40 (by rfl) agg_actK size_actK av hcA hal40 ?_)
                  | ((with_reducible show wpList _ _ _ (Oper.mk (some 9) (Op.alloc 45) _ _ _ _ :: _) _ _); refine wpList_alloc0 (by rfl) 45 (by rfl) (some 9) (by rfl) _ HALA.out ?_; intro wa hAa hba hsa
                     have hPa := hPr'.stays hba
                     have hKa := hKr'.new (N := fun j => rowOf (.slice pa L pc) j ∨ j = wr.heap.size) hba (fun j hj => hj.imp id (fun e => by rw [e]; exact ⟨Nat.le_refl _, by omega⟩))
                     have hnrA : ¬ rowOf (.slice pa L pc) wr.heap.size := fun hj => by have := (hPr'.lt hj).2; omega)
                  | ((with_reducible show wpList _ _ _ (Oper.mk _ (Op.store 45 (.tmp 9) _) _ _ _ _ :: _) _ _); refine wpList_store_blk (by rfl) (.tmp 9) (.tmp 36) 45 (by rfl) _ 0 40 (by rfl) av (by rfl) size_actK hAa hal40 (by omega) halo _ (whole_store hzal) ?_
                     intro wb hAb hbutb hsb
                     have hKb := hKa.set hbutb (.inr rfl) hKr'.bel.size
                     have hPb := hPa.but hbutb hnrA
                     have HSB : Hid (wb.heap.size = wr.heap.size + 1) := by show _ = _; omega
                     have hc39 : wb.cell? ⟨wr.heap.size, 39, none⟩ = some (.slice X.ba nb X.bc) := (hAb.cell 39).trans HC.out.2.2.2.2
                     clear hsa hsb hAa hba hPa hKa hbutb)
                  | ((with_reducible show wpList _ _ _ (Oper.mk _ (Op.load 42 (.tmp 41)) _ _ _ _ :: _) _ _); refine wpList_load_blk (by rfl) (.tmp 41) 42 (by rfl) _ 4 35 (by rfl) agg_ptr size_ptr hAb xv HXP.out hxvl ?_)
                  | ((with_reducible show wpList _ _ _ (Oper.mk (some 10) (Op.alloc 42) _ _ _ _ :: _) _ _); refine wpList_alloc0 (by rfl) 42 (by rfl) (some 10) (by rfl) _ HALP.out ?_; intro wc hQc hbc hsc
                     have hAc := hAb.stays hbc
                     have hPc := hPb.stays hbc
                     have hKc := hKb.new (N := fun j => (rowOf (.slice pa L pc) j ∨ j = wr.heap.size) ∨ j = wb.heap.size) hbc (fun j hj => hj.imp id (fun e => by rw [e]; exact ⟨Nat.le_refl _, by omega⟩))
                     have hnrQ : ¬ rowOf (.slice pa L pc) wb.heap.size := fun hj => by have := (hPb.lt hj).2; omega)
                  | ((with_reducible show wpList _ _ _ (Oper.mk _ (Op.store 42 (.tmp 10) (.tmp 42)) _ _ _ _ :: _) _ _); refine wpList_store_blk (by rfl) (.tmp 10) (.tmp 42) 42 (by rfl) _ 0 35 (by rfl) xv (by rfl) size_ptr hQc hxvl (by omega) hxvo _ (whole_store hzpl) ?_
                     intro wd hQd hbutd hsd
                     have hAd := hAc.but hbutd (by have := HSB.out; omega)
                     have hPd := hPc.but hbutd hnrQ
                     have hKd := hKc.set hbutd (.inr rfl) (by have := hKb.bel.size; omega)
                     have hc2 : wd.cell? ⟨wr.heap.size, 2, none⟩ = some (.int .i64 wh) := (hAd.cell 2).trans HC.out.2.2.1
                     clear hAc hPc hKc hbutd hQc hbc hsc hsd hc39
                     have hAe := hAd
                     have hPe := hPd
                     have hKe := hKd
                     have hQe := hQd
                     rw [HXQ.out] at hQe
                     have hdo := do_run hKe HV1.out HSL.out X HXO.out HXL.out Q HQOK.out
                     rw [← HD.out, ← HAV.out, ← HQV.out, ← HTV.out] at hdo)
                  | ((with_reducible show wpList _ _ _ (Oper.mk _ (Op.load 45 (.tmp 9)) _ _ _ _ :: _) _ _); refine wpList_load_blk (by rfl) (.tmp 9) 45 (by rfl) _ 0 40 (by rfl) agg_actK size_actK hAe _ (whole_load hal40) hal40 ?_)
                  | ((with_reducible show wpList _ _ _ (Oper.mk _ (Op.load 42 (.tmp 10)) _ _ _ _ :: _) _ _); refine wpList_load_blk (by rfl) (.tmp 10) 42 (by rfl) _ 0 35 (by rfl) agg_ptr size_ptr hQe _ (whole_load hqvl) hqvl ?_)
                  | (go_at_call 7; go_must (refine hdo.mono ?_); rintro e wf ⟨rfl, hKf, hyf⟩
                     have hAf := hyf.blk hAe (.inl (.inr rfl))
                     have hPf := hPe.stay hyf (fun j hj => .inl (.inl hj))
                     have hKf' := hKf.less (N := rowOf (.slice pa L pc)) (fun j hj => .inl (.inl hj))
                     have hnrT : ¬ rowOf (.slice pa L pc) wf.heap.size := fun hj => by have := (hPf.lt hj).2; omega
                     have hltA := hAf.lt
                     dsimp only []
                     apply_assumption
                     refine wpList_alloc0 (by rfl) 49 (by rfl) (some 11) (by rfl) _ HALT.out ?_
                     intro wg hTg hbg hsg
                     have hAg := hAf.stays hbg
                     have hPg := hPf.stays hbg
                     have hKg := hKf'.new (N := fun j => rowOf (.slice pa L pc) j ∨ j = wf.heap.size) hbg (fun j hj => hj.imp id (fun e => by rw [e]; exact ⟨Nat.le_refl _, by omega⟩))
                     refine wpList_store_blk (by rfl) (.tmp 11) (.tmp 62) 49 (by rfl) _ 0 40 (by rfl) tv (by rfl) size_told hTg htvl (by omega) htvo _ (whole_store hztl) ?_
                     intro wh' hTh hbuth hsh
                     have hAh := hAg.but hbuth (by omega)
                     have hPh' := hPg.but hbuth hnrT
                     have hKh := (hKg.set hbuth (.inr rfl) hKf.bel.size).less (N := rowOf (.slice pa L pc)) (fun j hj => .inl hj)
                     have hc0 : wh'.cell? ⟨wr.heap.size, 0, none⟩ = some (.int .i64 1) := (hAh.cell 0).trans HC.out.1
                     have hce : wh'.cell? ⟨wf.heap.size, 39, none⟩ = some (.int .i64 0) := (hTh.cell 39).trans HTE.out
                     clear hKf hyf hAf hPf hKf' hltA hAg hPg hKg hbg hsg hTg hsh hbuth hAe hPe hKe hQe hdo hc2)
                  | ((with_reducible show wpList _ _ _ (Oper.mk _ (Op.load 42 (.tmp 72)) _ _ _ _ :: _) _ _); refine wpList_load_blk (by rfl) (.tmp 72) 42 (by rfl) _ 0 35 (by rfl) agg_ptr size_ptr hTh tpv HTP.out htpl ?_)
                  | ((with_reducible show wpList _ _ _ (Oper.mk _ (Op.buildSlice 38 1 _) _ _ _ _ :: _) _ _); refine wpList_onep (by rfl) (.tmp 73) (by rfl) (some 74) (by rfl) tpv (by rfl) HONE.out ?_; intro wi b9 hb9e hRi hbi hsi
                     have hPi := hPh'.stays hbi
                     rw [HTPV.out] at hRi
                     have hKi := hKh.stays hbi)
                  | ((with_reducible show wpList _ _ _ (Oper.mk _ (Op.call { callee := _, args := #[Operand.tmp 71, Operand.tmp 74], argTypes := _ }) _ _ _ _ :: _) _ _); go_must (refine wpList_append_ptr (by rfl) (.tmp 71) (.tmp 74) (by rfl) w1.heap.size (.slice pa L pc) _ (by rfl) hPi b9 D.2.p HTOK.out (by rfl) hRi (by have := HS.out; omega) hKi.bel.size ?_); intro v8 w8 hP8 hg8 hr8
                     have hK8 := hKi.grown hg8 (fun j hj => ⟨hj, (hPi.lt hj).1⟩) (N := rowOf v8) (fun j hj => hr8 j hj)
                     clear hg8 hr8 hKi hPi hRi hbi hsi hb9e))
                obtain ⟨ia, ic, rfl⟩ := hP8.form
                obtain ⟨LI, hLI⟩ : ∃ LI, LI = (ps ++ [D.2.p]).length := ⟨_, rfl⟩
                have HLI : Hid (LI = (ps ++ [D.2.p]).length) := hLI
                have hPI : Plist w1.heap.size w8 (.slice ia LI ic) (ps ++ [D.2.p]) := by rw [hLI]; exact hP8
                have hKI : BS w1 w8 (rowOf (.slice ia LI ic)) k p g D.1.1 D.1.2 7 := by rw [hLI]; exact hK8
                obtain ⟨psI, hpsI⟩ : ∃ psI, psI = ps ++ [D.2.p] := ⟨_, rfl⟩
                rw [← hpsI] at hPI HLI
                rw [← hLI]
                have HSI : Hid (D.1.1.ws.length ≤ 8 * (i + 1) ∧ psI.length ≤ (i + 1) + 1) := by show _ ∧ _; rw [hpsI]; have := HS.out; have := HDL.out; exact ⟨by omega, (by rw [List.length_append, List.length_singleton]; omega)⟩
                clear hLI hpsI hP8 hK8
                have hLI31 : LI ≤ 31 := by have h1 := HSI.out.2; have h2 := HLI.out; omega
                go_wp2
                go_loopw [12] (fun x wq => ∃ (q : World) (j : Nat), q = wq ∧ x = .int .i64 j ∧ j ≤ LI ∧ BS w1 wq (rowOf (.slice ia LI ic)) k p g D.1.1 D.1.2 7 ∧ Plist w1.heap.size wq (.slice ia LI ic) psI) (fun x _ => LI - (intOf x).toNat)
                case atStart => exact ⟨_, 0, rfl, rfl, by omega, hKI, hPI⟩
                case round =>
                  clear hKI hPI
                  have hrelI := hrel
                  clear hrel
                  obtain ⟨wq, j, rfl, rfl, hjL, hKq, hPq⟩ := hrelI
                  by_cases hltI : j < LI
                  · have hq7 : decide ((j : Int) < (LI : Int)) = true := by simp; omega
                    have hjp : j < psI.length := by rw [← HLI.out]; exact hltI
                    obtain ⟨bq, cb, hve, hrb, hcellI, hpok⟩ := hPq.at (i := j) hjp
                    have hcv : ia = some ⟨bq, 0, none⟩ := by simp only [Value.slice.injEq] at hve; exact hve.1
                    subst hcv
                    have hixI : ∀ u : World, (Instr.indexAt 38 (.slice (some ⟨bq, 0, none⟩) LI ic) (.int .i64 (j : Int))).run Tryd.prog u = .ok (.pointer (some ⟨bq, j * 35, none⟩)) u := fun u => index_ptrs bq LI ic j hltI u
                    obtain ⟨P, hPe⟩ : ∃ P, P = psI.getD j default := ⟨_, rfl⟩
                    rw [← hPe] at hcellI hpok
                    have HPOK : Hid P.ok := hpok
                    have hvl : P.vs.length = 35 := Pt.vs_len hpok
                    obtain ⟨nS, hok⟩ := hKq.ok
                    have hnev := read_never hok P
                    have hrlen := readK_len hok P
                    have HSLI : Hid (D.1.1.ws.length ≤ 800000) := by show _ ≤ _; have := HSI.out; omega
                    have hrd := bs_read hKq HV1.out HSLI.out P hpok
                    have hPh := Pt.at_h hpok
                    obtain ⟨hs, hhs⟩ : ∃ hs, hs = P.h.map (Value.int .u8) := ⟨_, rfl⟩
                    have HHS : Hid (hs = P.h.map (Value.int .u8)) := hhs
                    have hhl : hs.length = 32 := by rw [hhs, List.length_map, hpok.len]
                    rw [← hhs] at hPh
                    obtain ⟨vs, hvs⟩ : ∃ vs, vs = P.vs := ⟨_, rfl⟩
                    have HVS : Hid (vs = P.vs) := hvs
                    rw [← hvs] at hcellI hvl hrd hPh
                    obtain ⟨RB, hRB⟩ : ∃ RB, RB = (readK D.1.1 P).1 := ⟨_, rfl⟩
                    obtain ⟨ER, hER⟩ : ∃ ER, ER = (readK D.1.1 P).2 := ⟨_, rfl⟩
                    rw [← hRB, ← hER] at hrd hnev hrlen
                    have HNEV : Hid (ER = 0 → RB.length = 256 ∧ (shaOf RB = P.h ∨ P = Pt.zero)) := hnev
                    have HPJ : Hid (psI.getD j default = P) := hPe.symm
                    clear hRB hER hvs hhs hPe hve hok hjp hnev
                    by_cases he0 : ER = 0
                    · subst he0
                      have hl256 : RB.length = 256 := (HNEV.out rfl).1
                      have HNV : Hid (shaOf RB = P.h ∨ P = Pt.zero) := (HNEV.out rfl).2
                      clear HNEV
                      rw [hl256] at hrd
                      clear hrlen
                      go_wp2_with (first
                        | ((with_reducible show wpList _ _ _ (Oper.mk _ (Op.load 42 (.tmp 86)) _ _ _ _ :: _) _ _); refine wpList_load_cells (by rfl) (.tmp 86) 42 (by rfl) bq (j * 35) 35 (by rfl) agg_ptr size_ptr vs hcellI hvl ?_)
                        | (go_at_call 17; go_must (refine hrd.mono ?_); rintro e wq2 ⟨a5, c5, rfl, hN5, hb5⟩))
                      have hKq2 := hKq.stays hb5
                      have hPq2 := hPq.stays hb5
                      have hsum2 : ∀ u, Below wq2.heap.size wq2 u → Calls Tryd.prog 18 #[.slice a5 256 c5] u fun e w' => e = .returned (.agg ((shaOf RB).map (Value.int .u8)).toArray) ∧ Below u.heap.size u w' := fun u hu => by
                        have := sum_run a5 c5 _ u (hN5.1.stays hu) ((hKq2.stays hu).vars HV1.out) (by rw [hl256]; omega)
                        rw [hl256] at this
                        exact this
                      have hcq2 : ∀ u, Below wq2.heap.size wq2 u → ∀ m, m < 35 → u.cell? ⟨bq, j * 35 + m, none⟩ = vs[m]? := fun u hu m hm => by rw [HVS.out]; exact ((hPq2.stays hu).cells (i := j) (by rw [← HLI.out]; exact hltI) m hm).trans (by rw [HPJ.out])
                      have hldh : ∀ u, Below wq2.heap.size wq2 u → (Instr.loadAt 39 (.pointer (some ⟨bq, j * 35, none⟩))).run Tryd.prog u = .ok (.agg hs.toArray) u := fun u hu => run_load_cells agg_hsh size_hash (fun m hm => (hcq2 u hu m (by omega)).trans (hPh m hm)) hhl
                      have hldp : ∀ u, Below wq2.heap.size wq2 u → (Instr.loadAt 42 (.pointer (some ⟨bq, j * 35, none⟩))).run Tryd.prog u = .ok (.agg vs.toArray) u := fun u hu => run_load_cells agg_ptr size_ptr (hcq2 u hu) hvl
                      have heq := fun u => sum_equal P HPOK.out (shaOf RB) (shaOf_length _) u
                      rw [← HHS.out] at heq
                      obtain ⟨ss, hss⟩ : ∃ ss, ss = (shaOf RB).map (Value.int .u8) := ⟨_, rfl⟩
                      rw [← hss] at heq hsum2
                      by_cases hsame : (shaOf RB == P.h) = true
                      · rw [hsame] at heq
                        have HEQ : Hid (∀ u, (Op.equalIn 10000 39 (.agg ss.toArray) (.agg hs.toArray)).run Tryd.prog u = .ok true u) := heq
                        clear heq hss hcellI hrd hcq2 hPh hKq hPq hb5 hN5
                        refine UpT.wp_region_tail 24 (UpT.tell [(8, isV (.agg ss.toArray))]) (fun _ => false) (by kernel_rfl) (by kernel_rfl) (UpT.tell_steady _ (by
                          intro p hp
                          simp only [List.mem_cons, List.not_mem_nil, or_false] at hp
                          rcases hp with rfl <;> first | exact isV_steady _ | exact slB_steady _ _)) ?_
                        simp only [List.take_succ_cons, List.take_zero]
                        iterate 3 (apply UpT.wpUp_pure; (case hw => rfl); (case hψ => rfl); (case hv => (intro wz hp; clear hp; go_simp; try (with_reducible rfl))); simp only [Act.put, List.setIfInBounds_toArray, List.set_cons_zero, List.set_cons_succ])
                        iterate 5 (apply UpT.wpUp_pure; (case hw => rfl); (case hψ => rfl); (case hv => (intro wz hp; clear hp; go_simp; try (with_reducible rfl))); simp only [Act.put, List.setIfInBounds_toArray, List.set_cons_zero, List.set_cons_succ])
                        refine UpT.wpUp_call _ 18 #[.slice a5 256 c5] (by rfl) (by rfl) (by rfl) (fun wz => by go_simp) (fun wz hp => calls_isV (hsum2 wz hp.1)) ?_
                        rintro v ⟨u, _, hf⟩
                        obtain rfl := hf.of 8 v _ rfl rfl
                        clear hf
                        simp only [Act.put, List.setIfInBounds_toArray, List.set_cons_zero, List.set_cons_succ]
                        iterate 4 (apply UpT.wpUp_pure; (case hw => rfl); (case hψ => rfl); (case hv => (intro wz hp; clear hp; go_simp; try (with_reducible rfl))); simp only [Act.put, List.setIfInBounds_toArray, List.set_cons_zero, List.set_cons_succ])
                        refine UpT.wpUp_pure (.agg hs.toArray) (by rfl) (by rfl) (fun wz hp => exec_load (by rfl) (by rfl) (hldh wz hp.1)) ?_
                        simp only [Act.put, List.setIfInBounds_toArray, List.set_cons_zero, List.set_cons_succ]
                        have heq := HEQ.out
                        iterate 2 (apply UpT.wpUp_pure; (case hw => rfl); (case hψ => rfl); (case hv => (intro wz hp; clear hp; go_simp; try (with_reducible rfl))); simp only [Act.put, List.setIfInBounds_toArray, List.set_cons_zero, List.set_cons_succ])
                        iterate 6 (refine UpT.wpUp_pass (by rfl) ?_; simp only [Act.put, List.setIfInBounds_toArray, List.set_cons_zero, List.set_cons_succ])
                        iterate 2 (apply UpT.wpUp_pure; (case hw => rfl); (case hψ => rfl); (case hv => (intro wz hp; clear hp; go_simp; try (with_reducible rfl))); simp only [Act.put, List.setIfInBounds_toArray, List.set_cons_zero, List.set_cons_succ])
                        refine UpT.wpUp_end ?_
                        intro wq3 hb6 hf
                        clear hf
                        simp only [List.drop_succ_cons, List.drop_zero]
                        go_wp2
                        go_roundw
                        case rel => exact ⟨_, j + 1, rfl, by go_num, by omega, hKq2.stays hb6, hPq2.stays hb6⟩
                        case measure => simp [intOf]; omega
                      · have hsame' : (shaOf RB == P.h) = false := by simpa using hsame
                        rw [hsame'] at heq
                        have HEQ : Hid (∀ u, (Op.equalIn 10000 39 (.agg ss.toArray) (.agg hs.toArray)).run Tryd.prog u = .ok false u) := heq
                        have hz : P = Pt.zero := by
                          rcases HNV.out with h1 | h1
                          · exact absurd (by simpa using h1) hsame
                          · exact h1
                        have HPEQ : Hid (∀ u, (Op.equalIn 10000 42 (.agg vs.toArray) (.agg zp.toArray)).run Tryd.prog u = .ok true u) := by
                          show ∀ u, _
                          intro u
                          rw [HVS.out, HZP.out, ptr_zero_equal P HPOK.out u, hz]
                          rfl
                        clear heq hss hcellI hrd hcq2 hPh hKq hPq hb5 hN5 hz hsame hsame'
                        refine UpT.wp_region_tail 24 (UpT.tell [(8, isV (.agg ss.toArray))]) (fun _ => false) (by kernel_rfl) (by kernel_rfl) (UpT.tell_steady _ (by
                          intro p hp
                          simp only [List.mem_cons, List.not_mem_nil, or_false] at hp
                          rcases hp with rfl <;> first | exact isV_steady _ | exact slB_steady _ _)) ?_
                        simp only [List.take_succ_cons, List.take_zero]
                        iterate 3 (apply UpT.wpUp_pure; (case hw => rfl); (case hψ => rfl); (case hv => (intro wz hp; clear hp; go_simp; try (with_reducible rfl))); simp only [Act.put, List.setIfInBounds_toArray, List.set_cons_zero, List.set_cons_succ])
                        iterate 5 (apply UpT.wpUp_pure; (case hw => rfl); (case hψ => rfl); (case hv => (intro wz hp; clear hp; go_simp; try (with_reducible rfl))); simp only [Act.put, List.setIfInBounds_toArray, List.set_cons_zero, List.set_cons_succ])
                        refine UpT.wpUp_call _ 18 #[.slice a5 256 c5] (by rfl) (by rfl) (by rfl) (fun wz => by go_simp) (fun wz hp => calls_isV (hsum2 wz hp.1)) ?_
                        rintro v ⟨u, _, hf⟩
                        obtain rfl := hf.of 8 v _ rfl rfl
                        clear hf
                        simp only [Act.put, List.setIfInBounds_toArray, List.set_cons_zero, List.set_cons_succ]
                        iterate 4 (apply UpT.wpUp_pure; (case hw => rfl); (case hψ => rfl); (case hv => (intro wz hp; clear hp; go_simp; try (with_reducible rfl))); simp only [Act.put, List.setIfInBounds_toArray, List.set_cons_zero, List.set_cons_succ])
                        refine UpT.wpUp_pure (.agg hs.toArray) (by rfl) (by rfl) (fun wz hp => exec_load (by rfl) (by rfl) (hldh wz hp.1)) ?_
                        simp only [Act.put, List.setIfInBounds_toArray, List.set_cons_zero, List.set_cons_succ]
                        have heq := HEQ.out
                        iterate 2 (apply UpT.wpUp_pure; (case hw => rfl); (case hψ => rfl); (case hv => (intro wz hp; clear hp; go_simp; try (with_reducible rfl))); simp only [Act.put, List.setIfInBounds_toArray, List.set_cons_zero, List.set_cons_succ])
                        iterate 3 (apply UpT.wpUp_pure; (case hw => rfl); (case hψ => rfl); (case hv => (intro wz hp; clear hp; go_simp; try (with_reducible rfl))); simp only [Act.put, List.setIfInBounds_toArray, List.set_cons_zero, List.set_cons_succ])
                        refine UpT.wpUp_pure (.agg vs.toArray) (by rfl) (by rfl) (fun wz hp => exec_load (by rfl) (by rfl) (hldp wz hp.1)) ?_
                        simp only [Act.put, List.setIfInBounds_toArray, List.set_cons_zero, List.set_cons_succ]
                        refine UpT.wpUp_pure (.agg zp.toArray) (by rfl) (by rfl) (fun wz hp => exec_build0 (by rfl) (HBUP.out wz)) ?_
                        simp only [Act.put, List.setIfInBounds_toArray, List.set_cons_zero, List.set_cons_succ]
                        have hpeq := HPEQ.out
                        iterate 3 (apply UpT.wpUp_pure; (case hw => rfl); (case hψ => rfl); (case hv => (intro wz hp; clear hp; go_simp; try (with_reducible rfl))); simp only [Act.put, List.setIfInBounds_toArray, List.set_cons_zero, List.set_cons_succ])
                        refine UpT.wpUp_end ?_
                        intro wq3 hb6 hf
                        clear hf
                        simp only [List.drop_succ_cons, List.drop_zero]
                        go_wp2
                        go_roundw
                        case rel => exact ⟨_, j + 1, rfl, by go_num, by omega, hKq2.stays hb6, hPq2.stays hb6⟩
                        case measure => simp [intOf]; omega
                    · have heb : (ER == 0) = false := by simp [he0]
                      have heb2 : decide (ER = 0) = false := by simp [he0]
                      rcases hrlen with hrl | hrl
                      · exact absurd hrl.1 he0
                      rw [hrl.2] at hrd
                      simp only [List.length_nil] at hrd
                      go_wp2_with (first
                        | ((with_reducible show wpList _ _ _ (Oper.mk _ (Op.load 42 (.tmp 86)) _ _ _ _ :: _) _ _); refine wpList_load_cells (by rfl) (.tmp 86) 42 (by rfl) bq (j * 35) 35 (by rfl) agg_ptr size_ptr vs hcellI hvl ?_)
                        | (go_at_call 17; go_must (refine hrd.mono ?_); rintro e wq2 ⟨a5, c5, rfl, hN5, hb5⟩))
                      have hKq2 := hKq.stays hb5
                      have hPq2 := hPq.stays hb5
                      obtain ⟨ss, hss⟩ : ∃ ss : List Value, ss = [] := ⟨_, rfl⟩
                      clear hss hcellI hrd hPh hKq hPq hb5 hN5
                      refine UpT.wp_region_tail 24 (UpT.tell [(8, isV (.agg ss.toArray))]) (fun _ => false) (by kernel_rfl) (by kernel_rfl) (UpT.tell_steady _ (by
                        intro p hp
                        simp only [List.mem_cons, List.not_mem_nil, or_false] at hp
                        rcases hp with rfl <;> first | exact isV_steady _ | exact slB_steady _ _)) ?_
                      simp only [List.take_succ_cons, List.take_zero]
                      iterate 3 (apply UpT.wpUp_pure; (case hw => rfl); (case hψ => rfl); (case hv => (intro wz hp; clear hp; go_simp; try (with_reducible rfl))); simp only [Act.put, List.setIfInBounds_toArray, List.set_cons_zero, List.set_cons_succ])
                      iterate 21 (refine UpT.wpUp_pass (by rfl) ?_; simp only [Act.put, List.setIfInBounds_toArray, List.set_cons_zero, List.set_cons_succ])
                      refine UpT.wpUp_end ?_
                      intro wq3 hb6 hf
                      clear hf
                      simp only [List.drop_succ_cons, List.drop_zero]
                      go_wp2
                      go_roundw
                      case rel => exact ⟨_, j + 1, rfl, by go_num, by omega, hKq2.stays hb6, hPq2.stays hb6⟩
                      case measure => simp [intOf]; omega
                  · have hq7 : decide ((j : Int) < (LI : Int)) = false := by simp; omega
                    go_wp2
                    go_roundw
                    case rel => exact ⟨i + 1, D.1.1, D.1.2, psI, by go_num, by omega, by omega, hPq, hKq, HSI⟩
                    case measure => simp [intOf]; omega
              · have hee1 : (ev == 0) = false := by simp [he1]
                have hee2 : decide (ev = 0) = false := by simp [he1]
                go_wp2_with (first
                  | ((with_reducible show wpList _ _ _ (Oper.mk _ (Op.load 45 (.tmp 35)) _ _ _ _ :: _) _ _); refine wpList_load_cells (by rfl) (.tmp 35) 45 (by rfl) b (off + i * 40) 40 (by rfl) agg_actK size_actK av hcA hal40 ?_)
                  | ((with_reducible show wpList _ _ _ (Oper.mk (some 9) (Op.alloc 45) _ _ _ _ :: _) _ _); refine wpList_alloc0 (by rfl) 45 (by rfl) (some 9) (by rfl) _ HALA.out ?_; intro wa hAa hba hsa
                     have hPa := hPr'.stays hba
                     have hKa := hKr'.new (N := fun j => rowOf (.slice pa L pc) j ∨ j = wr.heap.size) hba (fun j hj => hj.imp id (fun e => by rw [e]; exact ⟨Nat.le_refl _, by omega⟩))
                     have hnrA : ¬ rowOf (.slice pa L pc) wr.heap.size := fun hj => by have := (hPr'.lt hj).2; omega)
                  | ((with_reducible show wpList _ _ _ (Oper.mk _ (Op.store 45 (.tmp 9) _) _ _ _ _ :: _) _ _); refine wpList_store_blk (by rfl) (.tmp 9) (.tmp 36) 45 (by rfl) _ 0 40 (by rfl) av (by rfl) size_actK hAa hal40 (by omega) halo _ (whole_store hzal) ?_
                     intro wb hAb hbutb hsb
                     have hKb := hKa.set hbutb (.inr rfl) hKr'.bel.size
                     have hPb := hPa.but hbutb hnrA
                     have HSB : Hid (wb.heap.size = wr.heap.size + 1) := by show _ = _; omega
                     have hc39 : wb.cell? ⟨wr.heap.size, 39, none⟩ = some (.slice X.ba nb X.bc) := (hAb.cell 39).trans HC.out.2.2.2.2
                     clear hsa hsb hAa hba hPa hKa hbutb)
                  | ((with_reducible show wpList _ _ _ (Oper.mk _ (Op.load 42 (.tmp 41)) _ _ _ _ :: _) _ _); refine wpList_load_blk (by rfl) (.tmp 41) 42 (by rfl) _ 4 35 (by rfl) agg_ptr size_ptr hAb xv HXP.out hxvl ?_)
                  | ((with_reducible show wpList _ _ _ (Oper.mk (some 10) (Op.alloc 42) _ _ _ _ :: _) _ _); refine wpList_alloc0 (by rfl) 42 (by rfl) (some 10) (by rfl) _ HALP.out ?_; intro wc hQc hbc hsc
                     have hAc := hAb.stays hbc
                     have hPc := hPb.stays hbc
                     have hKc := hKb.new (N := fun j => (rowOf (.slice pa L pc) j ∨ j = wr.heap.size) ∨ j = wb.heap.size) hbc (fun j hj => hj.imp id (fun e => by rw [e]; exact ⟨Nat.le_refl _, by omega⟩))
                     have hnrQ : ¬ rowOf (.slice pa L pc) wb.heap.size := fun hj => by have := (hPb.lt hj).2; omega)
                  | ((with_reducible show wpList _ _ _ (Oper.mk _ (Op.store 42 (.tmp 10) (.tmp 42)) _ _ _ _ :: _) _ _); refine wpList_store_blk (by rfl) (.tmp 10) (.tmp 42) 42 (by rfl) _ 0 35 (by rfl) xv (by rfl) size_ptr hQc hxvl (by omega) hxvo _ (whole_store hzpl) ?_
                     intro wd hQd hbutd hsd
                     have hAd := hAc.but hbutd (by have := HSB.out; omega)
                     have hPd := hPc.but hbutd hnrQ
                     have hKd := hKc.set hbutd (.inr rfl) (by have := hKb.bel.size; omega)
                     have hc2 : wd.cell? ⟨wr.heap.size, 2, none⟩ = some (.int .i64 wh) := (hAd.cell 2).trans HC.out.2.2.1
                     clear hAc hPc hKc hbutd hQc hbc hsc hsd hc39
                     have hAe := hAd
                     have hPe := hPd
                     have hKe := hKd
                     have hQe := hQd
                     rw [HXQ.out] at hQe
                     have hdo := do_run hKe HV1.out HSL.out X HXO.out HXL.out Q HQOK.out
                     rw [← HD.out, ← HAV.out, ← HQV.out, ← HTV.out] at hdo)
                  | ((with_reducible show wpList _ _ _ (Oper.mk _ (Op.load 45 (.tmp 9)) _ _ _ _ :: _) _ _); refine wpList_load_blk (by rfl) (.tmp 9) 45 (by rfl) _ 0 40 (by rfl) agg_actK size_actK hAe _ (whole_load hal40) hal40 ?_)
                  | ((with_reducible show wpList _ _ _ (Oper.mk _ (Op.load 42 (.tmp 10)) _ _ _ _ :: _) _ _); refine wpList_load_blk (by rfl) (.tmp 10) 42 (by rfl) _ 0 35 (by rfl) agg_ptr size_ptr hQe _ (whole_load hqvl) hqvl ?_)
                  | (go_at_call 7; go_must (refine hdo.mono ?_); rintro e wf ⟨rfl, hKf, hyf⟩
                     have hAf := hyf.blk hAe (.inl (.inr rfl))
                     have hPf := hPe.stay hyf (fun j hj => .inl (.inl hj))
                     have hKf' := hKf.less (N := rowOf (.slice pa L pc)) (fun j hj => .inl (.inl hj))
                     have hnrT : ¬ rowOf (.slice pa L pc) wf.heap.size := fun hj => by have := (hPf.lt hj).2; omega
                     have hltA := hAf.lt
                     dsimp only []
                     apply_assumption
                     refine wpList_alloc0 (by rfl) 49 (by rfl) (some 11) (by rfl) _ HALT.out ?_
                     intro wg hTg hbg hsg
                     have hAg := hAf.stays hbg
                     have hPg := hPf.stays hbg
                     have hKg := hKf'.new (N := fun j => rowOf (.slice pa L pc) j ∨ j = wf.heap.size) hbg (fun j hj => hj.imp id (fun e => by rw [e]; exact ⟨Nat.le_refl _, by omega⟩))
                     refine wpList_store_blk (by rfl) (.tmp 11) (.tmp 62) 49 (by rfl) _ 0 40 (by rfl) tv (by rfl) size_told hTg htvl (by omega) htvo _ (whole_store hztl) ?_
                     intro wh' hTh hbuth hsh
                     have hAh := hAg.but hbuth (by omega)
                     have hPh' := hPg.but hbuth hnrT
                     have hKh := (hKg.set hbuth (.inr rfl) hKf.bel.size).less (N := rowOf (.slice pa L pc)) (fun j hj => .inl hj)
                     have hc0 : wh'.cell? ⟨wr.heap.size, 0, none⟩ = some (.int .i64 1) := (hAh.cell 0).trans HC.out.1
                     have hce : wh'.cell? ⟨wf.heap.size, 39, none⟩ = some (.int .i64 ev) := (hTh.cell 39).trans HTE.out
                     clear hKf hyf hAf hPf hKf' hltA hAg hPg hKg hbg hsg hTg hsh hbuth hAe hPe hKe hQe hdo hc2))
                obtain ⟨vI, hvI⟩ : ∃ vI, vI = Value.slice pa L pc := ⟨_, rfl⟩
                rw [← hvI] at hPh' hKh ⊢
                clear hvI
                obtain ⟨ia, ic, rfl⟩ := hPh'.form
                obtain ⟨LI, hLI⟩ : ∃ LI, LI = (ps).length := ⟨_, rfl⟩
                have HLI : Hid (LI = (ps).length) := hLI
                have hPI : Plist w1.heap.size wh' (.slice ia LI ic) (ps) := by rw [hLI]; exact hPh'
                have hKI : BS w1 wh' (rowOf (.slice ia LI ic)) k p g D.1.1 D.1.2 7 := by rw [hLI]; exact hKh
                obtain ⟨psI, hpsI⟩ : ∃ psI, psI = ps := ⟨_, rfl⟩
                rw [← hpsI] at hPI HLI
                rw [← hLI]
                have HSI : Hid (D.1.1.ws.length ≤ 8 * (i + 1) ∧ psI.length ≤ (i + 1) + 1) := by show _ ∧ _; rw [hpsI]; have := HS.out; have := HDL.out; exact ⟨by omega, by omega⟩
                clear hLI hpsI hPh' hKh
                have hLI31 : LI ≤ 31 := by have h1 := HSI.out.2; have h2 := HLI.out; omega
                go_wp2
                go_loopw [12] (fun x wq => ∃ (q : World) (j : Nat), q = wq ∧ x = .int .i64 j ∧ j ≤ LI ∧ BS w1 wq (rowOf (.slice ia LI ic)) k p g D.1.1 D.1.2 7 ∧ Plist w1.heap.size wq (.slice ia LI ic) psI) (fun x _ => LI - (intOf x).toNat)
                case atStart => exact ⟨_, 0, rfl, rfl, by omega, hKI, hPI⟩
                case round =>
                  clear hKI hPI
                  have hrelI := hrel
                  clear hrel
                  obtain ⟨wq, j, rfl, rfl, hjL, hKq, hPq⟩ := hrelI
                  by_cases hltI : j < LI
                  · have hq7 : decide ((j : Int) < (LI : Int)) = true := by simp; omega
                    have hjp : j < psI.length := by rw [← HLI.out]; exact hltI
                    obtain ⟨bq, cb, hve, hrb, hcellI, hpok⟩ := hPq.at (i := j) hjp
                    have hcv : ia = some ⟨bq, 0, none⟩ := by simp only [Value.slice.injEq] at hve; exact hve.1
                    subst hcv
                    have hixI : ∀ u : World, (Instr.indexAt 38 (.slice (some ⟨bq, 0, none⟩) LI ic) (.int .i64 (j : Int))).run Tryd.prog u = .ok (.pointer (some ⟨bq, j * 35, none⟩)) u := fun u => index_ptrs bq LI ic j hltI u
                    obtain ⟨P, hPe⟩ : ∃ P, P = psI.getD j default := ⟨_, rfl⟩
                    rw [← hPe] at hcellI hpok
                    have HPOK : Hid P.ok := hpok
                    have hvl : P.vs.length = 35 := Pt.vs_len hpok
                    obtain ⟨nS, hok⟩ := hKq.ok
                    have hnev := read_never hok P
                    have hrlen := readK_len hok P
                    have HSLI : Hid (D.1.1.ws.length ≤ 800000) := by show _ ≤ _; have := HSI.out; omega
                    have hrd := bs_read hKq HV1.out HSLI.out P hpok
                    have hPh := Pt.at_h hpok
                    obtain ⟨hs, hhs⟩ : ∃ hs, hs = P.h.map (Value.int .u8) := ⟨_, rfl⟩
                    have HHS : Hid (hs = P.h.map (Value.int .u8)) := hhs
                    have hhl : hs.length = 32 := by rw [hhs, List.length_map, hpok.len]
                    rw [← hhs] at hPh
                    obtain ⟨vs, hvs⟩ : ∃ vs, vs = P.vs := ⟨_, rfl⟩
                    have HVS : Hid (vs = P.vs) := hvs
                    rw [← hvs] at hcellI hvl hrd hPh
                    obtain ⟨RB, hRB⟩ : ∃ RB, RB = (readK D.1.1 P).1 := ⟨_, rfl⟩
                    obtain ⟨ER, hER⟩ : ∃ ER, ER = (readK D.1.1 P).2 := ⟨_, rfl⟩
                    rw [← hRB, ← hER] at hrd hnev hrlen
                    have HNEV : Hid (ER = 0 → RB.length = 256 ∧ (shaOf RB = P.h ∨ P = Pt.zero)) := hnev
                    have HPJ : Hid (psI.getD j default = P) := hPe.symm
                    clear hRB hER hvs hhs hPe hve hok hjp hnev
                    by_cases he0 : ER = 0
                    · subst he0
                      have hl256 : RB.length = 256 := (HNEV.out rfl).1
                      have HNV : Hid (shaOf RB = P.h ∨ P = Pt.zero) := (HNEV.out rfl).2
                      clear HNEV
                      rw [hl256] at hrd
                      clear hrlen
                      go_wp2_with (first
                        | ((with_reducible show wpList _ _ _ (Oper.mk _ (Op.load 42 (.tmp 86)) _ _ _ _ :: _) _ _); refine wpList_load_cells (by rfl) (.tmp 86) 42 (by rfl) bq (j * 35) 35 (by rfl) agg_ptr size_ptr vs hcellI hvl ?_)
                        | (go_at_call 17; go_must (refine hrd.mono ?_); rintro e wq2 ⟨a5, c5, rfl, hN5, hb5⟩))
                      have hKq2 := hKq.stays hb5
                      have hPq2 := hPq.stays hb5
                      have hsum2 : ∀ u, Below wq2.heap.size wq2 u → Calls Tryd.prog 18 #[.slice a5 256 c5] u fun e w' => e = .returned (.agg ((shaOf RB).map (Value.int .u8)).toArray) ∧ Below u.heap.size u w' := fun u hu => by
                        have := sum_run a5 c5 _ u (hN5.1.stays hu) ((hKq2.stays hu).vars HV1.out) (by rw [hl256]; omega)
                        rw [hl256] at this
                        exact this
                      have hcq2 : ∀ u, Below wq2.heap.size wq2 u → ∀ m, m < 35 → u.cell? ⟨bq, j * 35 + m, none⟩ = vs[m]? := fun u hu m hm => by rw [HVS.out]; exact ((hPq2.stays hu).cells (i := j) (by rw [← HLI.out]; exact hltI) m hm).trans (by rw [HPJ.out])
                      have hldh : ∀ u, Below wq2.heap.size wq2 u → (Instr.loadAt 39 (.pointer (some ⟨bq, j * 35, none⟩))).run Tryd.prog u = .ok (.agg hs.toArray) u := fun u hu => run_load_cells agg_hsh size_hash (fun m hm => (hcq2 u hu m (by omega)).trans (hPh m hm)) hhl
                      have hldp : ∀ u, Below wq2.heap.size wq2 u → (Instr.loadAt 42 (.pointer (some ⟨bq, j * 35, none⟩))).run Tryd.prog u = .ok (.agg vs.toArray) u := fun u hu => run_load_cells agg_ptr size_ptr (hcq2 u hu) hvl
                      have heq := fun u => sum_equal P HPOK.out (shaOf RB) (shaOf_length _) u
                      rw [← HHS.out] at heq
                      obtain ⟨ss, hss⟩ : ∃ ss, ss = (shaOf RB).map (Value.int .u8) := ⟨_, rfl⟩
                      rw [← hss] at heq hsum2
                      by_cases hsame : (shaOf RB == P.h) = true
                      · rw [hsame] at heq
                        have HEQ : Hid (∀ u, (Op.equalIn 10000 39 (.agg ss.toArray) (.agg hs.toArray)).run Tryd.prog u = .ok true u) := heq
                        clear heq hss hcellI hrd hcq2 hPh hKq hPq hb5 hN5
                        refine UpT.wp_region_tail 24 (UpT.tell [(8, isV (.agg ss.toArray))]) (fun _ => false) (by kernel_rfl) (by kernel_rfl) (UpT.tell_steady _ (by
                          intro p hp
                          simp only [List.mem_cons, List.not_mem_nil, or_false] at hp
                          rcases hp with rfl <;> first | exact isV_steady _ | exact slB_steady _ _)) ?_
                        simp only [List.take_succ_cons, List.take_zero]
                        iterate 3 (apply UpT.wpUp_pure; (case hw => rfl); (case hψ => rfl); (case hv => (intro wz hp; clear hp; go_simp; try (with_reducible rfl))); simp only [Act.put, List.setIfInBounds_toArray, List.set_cons_zero, List.set_cons_succ])
                        iterate 5 (apply UpT.wpUp_pure; (case hw => rfl); (case hψ => rfl); (case hv => (intro wz hp; clear hp; go_simp; try (with_reducible rfl))); simp only [Act.put, List.setIfInBounds_toArray, List.set_cons_zero, List.set_cons_succ])
                        refine UpT.wpUp_call _ 18 #[.slice a5 256 c5] (by rfl) (by rfl) (by rfl) (fun wz => by go_simp) (fun wz hp => calls_isV (hsum2 wz hp.1)) ?_
                        rintro v ⟨u, _, hf⟩
                        obtain rfl := hf.of 8 v _ rfl rfl
                        clear hf
                        simp only [Act.put, List.setIfInBounds_toArray, List.set_cons_zero, List.set_cons_succ]
                        iterate 4 (apply UpT.wpUp_pure; (case hw => rfl); (case hψ => rfl); (case hv => (intro wz hp; clear hp; go_simp; try (with_reducible rfl))); simp only [Act.put, List.setIfInBounds_toArray, List.set_cons_zero, List.set_cons_succ])
                        refine UpT.wpUp_pure (.agg hs.toArray) (by rfl) (by rfl) (fun wz hp => exec_load (by rfl) (by rfl) (hldh wz hp.1)) ?_
                        simp only [Act.put, List.setIfInBounds_toArray, List.set_cons_zero, List.set_cons_succ]
                        have heq := HEQ.out
                        iterate 2 (apply UpT.wpUp_pure; (case hw => rfl); (case hψ => rfl); (case hv => (intro wz hp; clear hp; go_simp; try (with_reducible rfl))); simp only [Act.put, List.setIfInBounds_toArray, List.set_cons_zero, List.set_cons_succ])
                        iterate 6 (refine UpT.wpUp_pass (by rfl) ?_; simp only [Act.put, List.setIfInBounds_toArray, List.set_cons_zero, List.set_cons_succ])
                        iterate 2 (apply UpT.wpUp_pure; (case hw => rfl); (case hψ => rfl); (case hv => (intro wz hp; clear hp; go_simp; try (with_reducible rfl))); simp only [Act.put, List.setIfInBounds_toArray, List.set_cons_zero, List.set_cons_succ])
                        refine UpT.wpUp_end ?_
                        intro wq3 hb6 hf
                        clear hf
                        simp only [List.drop_succ_cons, List.drop_zero]
                        go_wp2
                        go_roundw
                        case rel => exact ⟨_, j + 1, rfl, by go_num, by omega, hKq2.stays hb6, hPq2.stays hb6⟩
                        case measure => simp [intOf]; omega
                      · have hsame' : (shaOf RB == P.h) = false := by simpa using hsame
                        rw [hsame'] at heq
                        have HEQ : Hid (∀ u, (Op.equalIn 10000 39 (.agg ss.toArray) (.agg hs.toArray)).run Tryd.prog u = .ok false u) := heq
                        have hz : P = Pt.zero := by
                          rcases HNV.out with h1 | h1
                          · exact absurd (by simpa using h1) hsame
                          · exact h1
                        have HPEQ : Hid (∀ u, (Op.equalIn 10000 42 (.agg vs.toArray) (.agg zp.toArray)).run Tryd.prog u = .ok true u) := by
                          show ∀ u, _
                          intro u
                          rw [HVS.out, HZP.out, ptr_zero_equal P HPOK.out u, hz]
                          rfl
                        clear heq hss hcellI hrd hcq2 hPh hKq hPq hb5 hN5 hz hsame hsame'
                        refine UpT.wp_region_tail 24 (UpT.tell [(8, isV (.agg ss.toArray))]) (fun _ => false) (by kernel_rfl) (by kernel_rfl) (UpT.tell_steady _ (by
                          intro p hp
                          simp only [List.mem_cons, List.not_mem_nil, or_false] at hp
                          rcases hp with rfl <;> first | exact isV_steady _ | exact slB_steady _ _)) ?_
                        simp only [List.take_succ_cons, List.take_zero]
                        iterate 3 (apply UpT.wpUp_pure; (case hw => rfl); (case hψ => rfl); (case hv => (intro wz hp; clear hp; go_simp; try (with_reducible rfl))); simp only [Act.put, List.setIfInBounds_toArray, List.set_cons_zero, List.set_cons_succ])
                        iterate 5 (apply UpT.wpUp_pure; (case hw => rfl); (case hψ => rfl); (case hv => (intro wz hp; clear hp; go_simp; try (with_reducible rfl))); simp only [Act.put, List.setIfInBounds_toArray, List.set_cons_zero, List.set_cons_succ])
                        refine UpT.wpUp_call _ 18 #[.slice a5 256 c5] (by rfl) (by rfl) (by rfl) (fun wz => by go_simp) (fun wz hp => calls_isV (hsum2 wz hp.1)) ?_
                        rintro v ⟨u, _, hf⟩
                        obtain rfl := hf.of 8 v _ rfl rfl
                        clear hf
                        simp only [Act.put, List.setIfInBounds_toArray, List.set_cons_zero, List.set_cons_succ]
                        iterate 4 (apply UpT.wpUp_pure; (case hw => rfl); (case hψ => rfl); (case hv => (intro wz hp; clear hp; go_simp; try (with_reducible rfl))); simp only [Act.put, List.setIfInBounds_toArray, List.set_cons_zero, List.set_cons_succ])
                        refine UpT.wpUp_pure (.agg hs.toArray) (by rfl) (by rfl) (fun wz hp => exec_load (by rfl) (by rfl) (hldh wz hp.1)) ?_
                        simp only [Act.put, List.setIfInBounds_toArray, List.set_cons_zero, List.set_cons_succ]
                        have heq := HEQ.out
                        iterate 2 (apply UpT.wpUp_pure; (case hw => rfl); (case hψ => rfl); (case hv => (intro wz hp; clear hp; go_simp; try (with_reducible rfl))); simp only [Act.put, List.setIfInBounds_toArray, List.set_cons_zero, List.set_cons_succ])
                        iterate 3 (apply UpT.wpUp_pure; (case hw => rfl); (case hψ => rfl); (case hv => (intro wz hp; clear hp; go_simp; try (with_reducible rfl))); simp only [Act.put, List.setIfInBounds_toArray, List.set_cons_zero, List.set_cons_succ])
                        refine UpT.wpUp_pure (.agg vs.toArray) (by rfl) (by rfl) (fun wz hp => exec_load (by rfl) (by rfl) (hldp wz hp.1)) ?_
                        simp only [Act.put, List.setIfInBounds_toArray, List.set_cons_zero, List.set_cons_succ]
                        refine UpT.wpUp_pure (.agg zp.toArray) (by rfl) (by rfl) (fun wz hp => exec_build0 (by rfl) (HBUP.out wz)) ?_
                        simp only [Act.put, List.setIfInBounds_toArray, List.set_cons_zero, List.set_cons_succ]
                        have hpeq := HPEQ.out
                        iterate 3 (apply UpT.wpUp_pure; (case hw => rfl); (case hψ => rfl); (case hv => (intro wz hp; clear hp; go_simp; try (with_reducible rfl))); simp only [Act.put, List.setIfInBounds_toArray, List.set_cons_zero, List.set_cons_succ])
                        refine UpT.wpUp_end ?_
                        intro wq3 hb6 hf
                        clear hf
                        simp only [List.drop_succ_cons, List.drop_zero]
                        go_wp2
                        go_roundw
                        case rel => exact ⟨_, j + 1, rfl, by go_num, by omega, hKq2.stays hb6, hPq2.stays hb6⟩
                        case measure => simp [intOf]; omega
                    · have heb : (ER == 0) = false := by simp [he0]
                      have heb2 : decide (ER = 0) = false := by simp [he0]
                      rcases hrlen with hrl | hrl
                      · exact absurd hrl.1 he0
                      rw [hrl.2] at hrd
                      simp only [List.length_nil] at hrd
                      go_wp2_with (first
                        | ((with_reducible show wpList _ _ _ (Oper.mk _ (Op.load 42 (.tmp 86)) _ _ _ _ :: _) _ _); refine wpList_load_cells (by rfl) (.tmp 86) 42 (by rfl) bq (j * 35) 35 (by rfl) agg_ptr size_ptr vs hcellI hvl ?_)
                        | (go_at_call 17; go_must (refine hrd.mono ?_); rintro e wq2 ⟨a5, c5, rfl, hN5, hb5⟩))
                      have hKq2 := hKq.stays hb5
                      have hPq2 := hPq.stays hb5
                      obtain ⟨ss, hss⟩ : ∃ ss : List Value, ss = [] := ⟨_, rfl⟩
                      clear hss hcellI hrd hPh hKq hPq hb5 hN5
                      refine UpT.wp_region_tail 24 (UpT.tell [(8, isV (.agg ss.toArray))]) (fun _ => false) (by kernel_rfl) (by kernel_rfl) (UpT.tell_steady _ (by
                        intro p hp
                        simp only [List.mem_cons, List.not_mem_nil, or_false] at hp
                        rcases hp with rfl <;> first | exact isV_steady _ | exact slB_steady _ _)) ?_
                      simp only [List.take_succ_cons, List.take_zero]
                      iterate 3 (apply UpT.wpUp_pure; (case hw => rfl); (case hψ => rfl); (case hv => (intro wz hp; clear hp; go_simp; try (with_reducible rfl))); simp only [Act.put, List.setIfInBounds_toArray, List.set_cons_zero, List.set_cons_succ])
                      iterate 21 (refine UpT.wpUp_pass (by rfl) ?_; simp only [Act.put, List.setIfInBounds_toArray, List.set_cons_zero, List.set_cons_succ])
                      refine UpT.wpUp_end ?_
                      intro wq3 hb6 hf
                      clear hf
                      simp only [List.drop_succ_cons, List.drop_zero]
                      go_wp2
                      go_roundw
                      case rel => exact ⟨_, j + 1, rfl, by go_num, by omega, hKq2.stays hb6, hPq2.stays hb6⟩
                      case measure => simp [intOf]; omega
                  · have hq7 : decide ((j : Int) < (LI : Int)) = false := by simp; omega
                    go_wp2
                    go_roundw
                    case rel => exact ⟨i + 1, D.1.1, D.1.2, psI, by go_num, by omega, by omega, hPq, hKq, HSI⟩
                    case measure => simp [intOf]; omega
            · have hkk1 : (kd == 1) = false := by simp [hk1]
              have hkk2 : decide (kd = 1) = false := by simp [hk1]
              go_wp2_with (first
                | ((with_reducible show wpList _ _ _ (Oper.mk _ (Op.load 45 (.tmp 35)) _ _ _ _ :: _) _ _); refine wpList_load_cells (by rfl) (.tmp 35) 45 (by rfl) b (off + i * 40) 40 (by rfl) agg_actK size_actK av hcA hal40 ?_)
                | ((with_reducible show wpList _ _ _ (Oper.mk (some 9) (Op.alloc 45) _ _ _ _ :: _) _ _); refine wpList_alloc0 (by rfl) 45 (by rfl) (some 9) (by rfl) _ HALA.out ?_; intro wa hAa hba hsa
                   have hPa := hPr'.stays hba
                   have hKa := hKr'.new (N := fun j => rowOf (.slice pa L pc) j ∨ j = wr.heap.size) hba (fun j hj => hj.imp id (fun e => by rw [e]; exact ⟨Nat.le_refl _, by omega⟩))
                   have hnrA : ¬ rowOf (.slice pa L pc) wr.heap.size := fun hj => by have := (hPr'.lt hj).2; omega)
                | ((with_reducible show wpList _ _ _ (Oper.mk _ (Op.store 45 (.tmp 9) _) _ _ _ _ :: _) _ _); refine wpList_store_blk (by rfl) (.tmp 9) (.tmp 36) 45 (by rfl) _ 0 40 (by rfl) av (by rfl) size_actK hAa hal40 (by omega) halo _ (whole_store hzal) ?_
                   intro wb hAb hbutb hsb
                   have hKb := hKa.set hbutb (.inr rfl) hKr'.bel.size
                   have hPb := hPa.but hbutb hnrA
                   have HSB : Hid (wb.heap.size = wr.heap.size + 1) := by show _ = _; omega
                   have hc39 : wb.cell? ⟨wr.heap.size, 39, none⟩ = some (.slice X.ba nb X.bc) := (hAb.cell 39).trans HC.out.2.2.2.2
                   clear hsa hsb hAa hba hPa hKa hbutb)
                | ((with_reducible show wpList _ _ _ (Oper.mk _ (Op.load 42 (.tmp 41)) _ _ _ _ :: _) _ _); refine wpList_load_blk (by rfl) (.tmp 41) 42 (by rfl) _ 4 35 (by rfl) agg_ptr size_ptr hAb xv HXP.out hxvl ?_)
                | ((with_reducible show wpList _ _ _ (Oper.mk (some 10) (Op.alloc 42) _ _ _ _ :: _) _ _); refine wpList_alloc0 (by rfl) 42 (by rfl) (some 10) (by rfl) _ HALP.out ?_; intro wc hQc hbc hsc
                   have hAc := hAb.stays hbc
                   have hPc := hPb.stays hbc
                   have hKc := hKb.new (N := fun j => (rowOf (.slice pa L pc) j ∨ j = wr.heap.size) ∨ j = wb.heap.size) hbc (fun j hj => hj.imp id (fun e => by rw [e]; exact ⟨Nat.le_refl _, by omega⟩))
                   have hnrQ : ¬ rowOf (.slice pa L pc) wb.heap.size := fun hj => by have := (hPb.lt hj).2; omega)
                | ((with_reducible show wpList _ _ _ (Oper.mk _ (Op.store 42 (.tmp 10) (.tmp 42)) _ _ _ _ :: _) _ _); refine wpList_store_blk (by rfl) (.tmp 10) (.tmp 42) 42 (by rfl) _ 0 35 (by rfl) xv (by rfl) size_ptr hQc hxvl (by omega) hxvo _ (whole_store hzpl) ?_
                   intro wd hQd hbutd hsd
                   have hAd := hAc.but hbutd (by have := HSB.out; omega)
                   have hPd := hPc.but hbutd hnrQ
                   have hKd := hKc.set hbutd (.inr rfl) (by have := hKb.bel.size; omega)
                   have hc2 : wd.cell? ⟨wr.heap.size, 2, none⟩ = some (.int .i64 wh) := (hAd.cell 2).trans HC.out.2.2.1
                   clear hAc hPc hKc hbutd hQc hbc hsc hsd hc39
                   have hAe := hAd
                   have hPe := hPd
                   have hKe := hKd
                   have hQe := hQd
                   rw [HXQ.out] at hQe
                   have hdo := do_run hKe HV1.out HSL.out X HXO.out HXL.out Q HQOK.out
                   rw [← HD.out, ← HAV.out, ← HQV.out, ← HTV.out] at hdo)
                | ((with_reducible show wpList _ _ _ (Oper.mk _ (Op.load 45 (.tmp 9)) _ _ _ _ :: _) _ _); refine wpList_load_blk (by rfl) (.tmp 9) 45 (by rfl) _ 0 40 (by rfl) agg_actK size_actK hAe _ (whole_load hal40) hal40 ?_)
                | ((with_reducible show wpList _ _ _ (Oper.mk _ (Op.load 42 (.tmp 10)) _ _ _ _ :: _) _ _); refine wpList_load_blk (by rfl) (.tmp 10) 42 (by rfl) _ 0 35 (by rfl) agg_ptr size_ptr hQe _ (whole_load hqvl) hqvl ?_)
                | (go_at_call 7; go_must (refine hdo.mono ?_); rintro e wf ⟨rfl, hKf, hyf⟩
                   have hAf := hyf.blk hAe (.inl (.inr rfl))
                   have hPf := hPe.stay hyf (fun j hj => .inl (.inl hj))
                   have hKf' := hKf.less (N := rowOf (.slice pa L pc)) (fun j hj => .inl (.inl hj))
                   have hnrT : ¬ rowOf (.slice pa L pc) wf.heap.size := fun hj => by have := (hPf.lt hj).2; omega
                   have hltA := hAf.lt
                   dsimp only []
                   apply_assumption
                   refine wpList_alloc0 (by rfl) 49 (by rfl) (some 11) (by rfl) _ HALT.out ?_
                   intro wg hTg hbg hsg
                   have hAg := hAf.stays hbg
                   have hPg := hPf.stays hbg
                   have hKg := hKf'.new (N := fun j => rowOf (.slice pa L pc) j ∨ j = wf.heap.size) hbg (fun j hj => hj.imp id (fun e => by rw [e]; exact ⟨Nat.le_refl _, by omega⟩))
                   refine wpList_store_blk (by rfl) (.tmp 11) (.tmp 62) 49 (by rfl) _ 0 40 (by rfl) tv (by rfl) size_told hTg htvl (by omega) htvo _ (whole_store hztl) ?_
                   intro wh' hTh hbuth hsh
                   have hAh := hAg.but hbuth (by omega)
                   have hPh' := hPg.but hbuth hnrT
                   have hKh := (hKg.set hbuth (.inr rfl) hKf.bel.size).less (N := rowOf (.slice pa L pc)) (fun j hj => .inl hj)
                   have hc0 : wh'.cell? ⟨wr.heap.size, 0, none⟩ = some (.int .i64 kd) := (hAh.cell 0).trans HC.out.1
                   have hce : wh'.cell? ⟨wf.heap.size, 39, none⟩ = some (.int .i64 ev) := (hTh.cell 39).trans HTE.out
                   clear hKf hyf hAf hPf hKf' hltA hAg hPg hKg hbg hsg hTg hsh hbuth hAe hPe hKe hQe hdo hc2))
              obtain ⟨vI, hvI⟩ : ∃ vI, vI = Value.slice pa L pc := ⟨_, rfl⟩
              rw [← hvI] at hPh' hKh ⊢
              clear hvI
              obtain ⟨ia, ic, rfl⟩ := hPh'.form
              obtain ⟨LI, hLI⟩ : ∃ LI, LI = (ps).length := ⟨_, rfl⟩
              have HLI : Hid (LI = (ps).length) := hLI
              have hPI : Plist w1.heap.size wh' (.slice ia LI ic) (ps) := by rw [hLI]; exact hPh'
              have hKI : BS w1 wh' (rowOf (.slice ia LI ic)) k p g D.1.1 D.1.2 7 := by rw [hLI]; exact hKh
              obtain ⟨psI, hpsI⟩ : ∃ psI, psI = ps := ⟨_, rfl⟩
              rw [← hpsI] at hPI HLI
              rw [← hLI]
              have HSI : Hid (D.1.1.ws.length ≤ 8 * (i + 1) ∧ psI.length ≤ (i + 1) + 1) := by show _ ∧ _; rw [hpsI]; have := HS.out; have := HDL.out; exact ⟨by omega, by omega⟩
              clear hLI hpsI hPh' hKh
              have hLI31 : LI ≤ 31 := by have h1 := HSI.out.2; have h2 := HLI.out; omega
              go_wp2
              go_loopw [12] (fun x wq => ∃ (q : World) (j : Nat), q = wq ∧ x = .int .i64 j ∧ j ≤ LI ∧ BS w1 wq (rowOf (.slice ia LI ic)) k p g D.1.1 D.1.2 7 ∧ Plist w1.heap.size wq (.slice ia LI ic) psI) (fun x _ => LI - (intOf x).toNat)
              case atStart => exact ⟨_, 0, rfl, rfl, by omega, hKI, hPI⟩
              case round =>
                clear hKI hPI
                have hrelI := hrel
                clear hrel
                obtain ⟨wq, j, rfl, rfl, hjL, hKq, hPq⟩ := hrelI
                by_cases hltI : j < LI
                · have hq7 : decide ((j : Int) < (LI : Int)) = true := by simp; omega
                  have hjp : j < psI.length := by rw [← HLI.out]; exact hltI
                  obtain ⟨bq, cb, hve, hrb, hcellI, hpok⟩ := hPq.at (i := j) hjp
                  have hcv : ia = some ⟨bq, 0, none⟩ := by simp only [Value.slice.injEq] at hve; exact hve.1
                  subst hcv
                  have hixI : ∀ u : World, (Instr.indexAt 38 (.slice (some ⟨bq, 0, none⟩) LI ic) (.int .i64 (j : Int))).run Tryd.prog u = .ok (.pointer (some ⟨bq, j * 35, none⟩)) u := fun u => index_ptrs bq LI ic j hltI u
                  obtain ⟨P, hPe⟩ : ∃ P, P = psI.getD j default := ⟨_, rfl⟩
                  rw [← hPe] at hcellI hpok
                  have HPOK : Hid P.ok := hpok
                  have hvl : P.vs.length = 35 := Pt.vs_len hpok
                  obtain ⟨nS, hok⟩ := hKq.ok
                  have hnev := read_never hok P
                  have hrlen := readK_len hok P
                  have HSLI : Hid (D.1.1.ws.length ≤ 800000) := by show _ ≤ _; have := HSI.out; omega
                  have hrd := bs_read hKq HV1.out HSLI.out P hpok
                  have hPh := Pt.at_h hpok
                  obtain ⟨hs, hhs⟩ : ∃ hs, hs = P.h.map (Value.int .u8) := ⟨_, rfl⟩
                  have HHS : Hid (hs = P.h.map (Value.int .u8)) := hhs
                  have hhl : hs.length = 32 := by rw [hhs, List.length_map, hpok.len]
                  rw [← hhs] at hPh
                  obtain ⟨vs, hvs⟩ : ∃ vs, vs = P.vs := ⟨_, rfl⟩
                  have HVS : Hid (vs = P.vs) := hvs
                  rw [← hvs] at hcellI hvl hrd hPh
                  obtain ⟨RB, hRB⟩ : ∃ RB, RB = (readK D.1.1 P).1 := ⟨_, rfl⟩
                  obtain ⟨ER, hER⟩ : ∃ ER, ER = (readK D.1.1 P).2 := ⟨_, rfl⟩
                  rw [← hRB, ← hER] at hrd hnev hrlen
                  have HNEV : Hid (ER = 0 → RB.length = 256 ∧ (shaOf RB = P.h ∨ P = Pt.zero)) := hnev
                  have HPJ : Hid (psI.getD j default = P) := hPe.symm
                  clear hRB hER hvs hhs hPe hve hok hjp hnev
                  by_cases he0 : ER = 0
                  · subst he0
                    have hl256 : RB.length = 256 := (HNEV.out rfl).1
                    have HNV : Hid (shaOf RB = P.h ∨ P = Pt.zero) := (HNEV.out rfl).2
                    clear HNEV
                    rw [hl256] at hrd
                    clear hrlen
                    go_wp2_with (first
                      | ((with_reducible show wpList _ _ _ (Oper.mk _ (Op.load 42 (.tmp 86)) _ _ _ _ :: _) _ _); refine wpList_load_cells (by rfl) (.tmp 86) 42 (by rfl) bq (j * 35) 35 (by rfl) agg_ptr size_ptr vs hcellI hvl ?_)
                      | (go_at_call 17; go_must (refine hrd.mono ?_); rintro e wq2 ⟨a5, c5, rfl, hN5, hb5⟩))
                    have hKq2 := hKq.stays hb5
                    have hPq2 := hPq.stays hb5
                    have hsum2 : ∀ u, Below wq2.heap.size wq2 u → Calls Tryd.prog 18 #[.slice a5 256 c5] u fun e w' => e = .returned (.agg ((shaOf RB).map (Value.int .u8)).toArray) ∧ Below u.heap.size u w' := fun u hu => by
                      have := sum_run a5 c5 _ u (hN5.1.stays hu) ((hKq2.stays hu).vars HV1.out) (by rw [hl256]; omega)
                      rw [hl256] at this
                      exact this
                    have hcq2 : ∀ u, Below wq2.heap.size wq2 u → ∀ m, m < 35 → u.cell? ⟨bq, j * 35 + m, none⟩ = vs[m]? := fun u hu m hm => by rw [HVS.out]; exact ((hPq2.stays hu).cells (i := j) (by rw [← HLI.out]; exact hltI) m hm).trans (by rw [HPJ.out])
                    have hldh : ∀ u, Below wq2.heap.size wq2 u → (Instr.loadAt 39 (.pointer (some ⟨bq, j * 35, none⟩))).run Tryd.prog u = .ok (.agg hs.toArray) u := fun u hu => run_load_cells agg_hsh size_hash (fun m hm => (hcq2 u hu m (by omega)).trans (hPh m hm)) hhl
                    have hldp : ∀ u, Below wq2.heap.size wq2 u → (Instr.loadAt 42 (.pointer (some ⟨bq, j * 35, none⟩))).run Tryd.prog u = .ok (.agg vs.toArray) u := fun u hu => run_load_cells agg_ptr size_ptr (hcq2 u hu) hvl
                    have heq := fun u => sum_equal P HPOK.out (shaOf RB) (shaOf_length _) u
                    rw [← HHS.out] at heq
                    obtain ⟨ss, hss⟩ : ∃ ss, ss = (shaOf RB).map (Value.int .u8) := ⟨_, rfl⟩
                    rw [← hss] at heq hsum2
                    by_cases hsame : (shaOf RB == P.h) = true
                    · rw [hsame] at heq
                      have HEQ : Hid (∀ u, (Op.equalIn 10000 39 (.agg ss.toArray) (.agg hs.toArray)).run Tryd.prog u = .ok true u) := heq
                      clear heq hss hcellI hrd hcq2 hPh hKq hPq hb5 hN5
                      refine UpT.wp_region_tail 24 (UpT.tell [(8, isV (.agg ss.toArray))]) (fun _ => false) (by kernel_rfl) (by kernel_rfl) (UpT.tell_steady _ (by
                        intro p hp
                        simp only [List.mem_cons, List.not_mem_nil, or_false] at hp
                        rcases hp with rfl <;> first | exact isV_steady _ | exact slB_steady _ _)) ?_
                      simp only [List.take_succ_cons, List.take_zero]
                      iterate 3 (apply UpT.wpUp_pure; (case hw => rfl); (case hψ => rfl); (case hv => (intro wz hp; clear hp; go_simp; try (with_reducible rfl))); simp only [Act.put, List.setIfInBounds_toArray, List.set_cons_zero, List.set_cons_succ])
                      iterate 5 (apply UpT.wpUp_pure; (case hw => rfl); (case hψ => rfl); (case hv => (intro wz hp; clear hp; go_simp; try (with_reducible rfl))); simp only [Act.put, List.setIfInBounds_toArray, List.set_cons_zero, List.set_cons_succ])
                      refine UpT.wpUp_call _ 18 #[.slice a5 256 c5] (by rfl) (by rfl) (by rfl) (fun wz => by go_simp) (fun wz hp => calls_isV (hsum2 wz hp.1)) ?_
                      rintro v ⟨u, _, hf⟩
                      obtain rfl := hf.of 8 v _ rfl rfl
                      clear hf
                      simp only [Act.put, List.setIfInBounds_toArray, List.set_cons_zero, List.set_cons_succ]
                      iterate 4 (apply UpT.wpUp_pure; (case hw => rfl); (case hψ => rfl); (case hv => (intro wz hp; clear hp; go_simp; try (with_reducible rfl))); simp only [Act.put, List.setIfInBounds_toArray, List.set_cons_zero, List.set_cons_succ])
                      refine UpT.wpUp_pure (.agg hs.toArray) (by rfl) (by rfl) (fun wz hp => exec_load (by rfl) (by rfl) (hldh wz hp.1)) ?_
                      simp only [Act.put, List.setIfInBounds_toArray, List.set_cons_zero, List.set_cons_succ]
                      have heq := HEQ.out
                      iterate 2 (apply UpT.wpUp_pure; (case hw => rfl); (case hψ => rfl); (case hv => (intro wz hp; clear hp; go_simp; try (with_reducible rfl))); simp only [Act.put, List.setIfInBounds_toArray, List.set_cons_zero, List.set_cons_succ])
                      iterate 6 (refine UpT.wpUp_pass (by rfl) ?_; simp only [Act.put, List.setIfInBounds_toArray, List.set_cons_zero, List.set_cons_succ])
                      iterate 2 (apply UpT.wpUp_pure; (case hw => rfl); (case hψ => rfl); (case hv => (intro wz hp; clear hp; go_simp; try (with_reducible rfl))); simp only [Act.put, List.setIfInBounds_toArray, List.set_cons_zero, List.set_cons_succ])
                      refine UpT.wpUp_end ?_
                      intro wq3 hb6 hf
                      clear hf
                      simp only [List.drop_succ_cons, List.drop_zero]
                      go_wp2
                      go_roundw
                      case rel => exact ⟨_, j + 1, rfl, by go_num, by omega, hKq2.stays hb6, hPq2.stays hb6⟩
                      case measure => simp [intOf]; omega
                    · have hsame' : (shaOf RB == P.h) = false := by simpa using hsame
                      rw [hsame'] at heq
                      have HEQ : Hid (∀ u, (Op.equalIn 10000 39 (.agg ss.toArray) (.agg hs.toArray)).run Tryd.prog u = .ok false u) := heq
                      have hz : P = Pt.zero := by
                        rcases HNV.out with h1 | h1
                        · exact absurd (by simpa using h1) hsame
                        · exact h1
                      have HPEQ : Hid (∀ u, (Op.equalIn 10000 42 (.agg vs.toArray) (.agg zp.toArray)).run Tryd.prog u = .ok true u) := by
                        show ∀ u, _
                        intro u
                        rw [HVS.out, HZP.out, ptr_zero_equal P HPOK.out u, hz]
                        rfl
                      clear heq hss hcellI hrd hcq2 hPh hKq hPq hb5 hN5 hz hsame hsame'
                      refine UpT.wp_region_tail 24 (UpT.tell [(8, isV (.agg ss.toArray))]) (fun _ => false) (by kernel_rfl) (by kernel_rfl) (UpT.tell_steady _ (by
                        intro p hp
                        simp only [List.mem_cons, List.not_mem_nil, or_false] at hp
                        rcases hp with rfl <;> first | exact isV_steady _ | exact slB_steady _ _)) ?_
                      simp only [List.take_succ_cons, List.take_zero]
                      iterate 3 (apply UpT.wpUp_pure; (case hw => rfl); (case hψ => rfl); (case hv => (intro wz hp; clear hp; go_simp; try (with_reducible rfl))); simp only [Act.put, List.setIfInBounds_toArray, List.set_cons_zero, List.set_cons_succ])
                      iterate 5 (apply UpT.wpUp_pure; (case hw => rfl); (case hψ => rfl); (case hv => (intro wz hp; clear hp; go_simp; try (with_reducible rfl))); simp only [Act.put, List.setIfInBounds_toArray, List.set_cons_zero, List.set_cons_succ])
                      refine UpT.wpUp_call _ 18 #[.slice a5 256 c5] (by rfl) (by rfl) (by rfl) (fun wz => by go_simp) (fun wz hp => calls_isV (hsum2 wz hp.1)) ?_
                      rintro v ⟨u, _, hf⟩
                      obtain rfl := hf.of 8 v _ rfl rfl
                      clear hf
                      simp only [Act.put, List.setIfInBounds_toArray, List.set_cons_zero, List.set_cons_succ]
                      iterate 4 (apply UpT.wpUp_pure; (case hw => rfl); (case hψ => rfl); (case hv => (intro wz hp; clear hp; go_simp; try (with_reducible rfl))); simp only [Act.put, List.setIfInBounds_toArray, List.set_cons_zero, List.set_cons_succ])
                      refine UpT.wpUp_pure (.agg hs.toArray) (by rfl) (by rfl) (fun wz hp => exec_load (by rfl) (by rfl) (hldh wz hp.1)) ?_
                      simp only [Act.put, List.setIfInBounds_toArray, List.set_cons_zero, List.set_cons_succ]
                      have heq := HEQ.out
                      iterate 2 (apply UpT.wpUp_pure; (case hw => rfl); (case hψ => rfl); (case hv => (intro wz hp; clear hp; go_simp; try (with_reducible rfl))); simp only [Act.put, List.setIfInBounds_toArray, List.set_cons_zero, List.set_cons_succ])
                      iterate 3 (apply UpT.wpUp_pure; (case hw => rfl); (case hψ => rfl); (case hv => (intro wz hp; clear hp; go_simp; try (with_reducible rfl))); simp only [Act.put, List.setIfInBounds_toArray, List.set_cons_zero, List.set_cons_succ])
                      refine UpT.wpUp_pure (.agg vs.toArray) (by rfl) (by rfl) (fun wz hp => exec_load (by rfl) (by rfl) (hldp wz hp.1)) ?_
                      simp only [Act.put, List.setIfInBounds_toArray, List.set_cons_zero, List.set_cons_succ]
                      refine UpT.wpUp_pure (.agg zp.toArray) (by rfl) (by rfl) (fun wz hp => exec_build0 (by rfl) (HBUP.out wz)) ?_
                      simp only [Act.put, List.setIfInBounds_toArray, List.set_cons_zero, List.set_cons_succ]
                      have hpeq := HPEQ.out
                      iterate 3 (apply UpT.wpUp_pure; (case hw => rfl); (case hψ => rfl); (case hv => (intro wz hp; clear hp; go_simp; try (with_reducible rfl))); simp only [Act.put, List.setIfInBounds_toArray, List.set_cons_zero, List.set_cons_succ])
                      refine UpT.wpUp_end ?_
                      intro wq3 hb6 hf
                      clear hf
                      simp only [List.drop_succ_cons, List.drop_zero]
                      go_wp2
                      go_roundw
                      case rel => exact ⟨_, j + 1, rfl, by go_num, by omega, hKq2.stays hb6, hPq2.stays hb6⟩
                      case measure => simp [intOf]; omega
                  · have heb : (ER == 0) = false := by simp [he0]
                    have heb2 : decide (ER = 0) = false := by simp [he0]
                    rcases hrlen with hrl | hrl
                    · exact absurd hrl.1 he0
                    rw [hrl.2] at hrd
                    simp only [List.length_nil] at hrd
                    go_wp2_with (first
                      | ((with_reducible show wpList _ _ _ (Oper.mk _ (Op.load 42 (.tmp 86)) _ _ _ _ :: _) _ _); refine wpList_load_cells (by rfl) (.tmp 86) 42 (by rfl) bq (j * 35) 35 (by rfl) agg_ptr size_ptr vs hcellI hvl ?_)
                      | (go_at_call 17; go_must (refine hrd.mono ?_); rintro e wq2 ⟨a5, c5, rfl, hN5, hb5⟩))
                    have hKq2 := hKq.stays hb5
                    have hPq2 := hPq.stays hb5
                    obtain ⟨ss, hss⟩ : ∃ ss : List Value, ss = [] := ⟨_, rfl⟩
                    clear hss hcellI hrd hPh hKq hPq hb5 hN5
                    refine UpT.wp_region_tail 24 (UpT.tell [(8, isV (.agg ss.toArray))]) (fun _ => false) (by kernel_rfl) (by kernel_rfl) (UpT.tell_steady _ (by
                      intro p hp
                      simp only [List.mem_cons, List.not_mem_nil, or_false] at hp
                      rcases hp with rfl <;> first | exact isV_steady _ | exact slB_steady _ _)) ?_
                    simp only [List.take_succ_cons, List.take_zero]
                    iterate 3 (apply UpT.wpUp_pure; (case hw => rfl); (case hψ => rfl); (case hv => (intro wz hp; clear hp; go_simp; try (with_reducible rfl))); simp only [Act.put, List.setIfInBounds_toArray, List.set_cons_zero, List.set_cons_succ])
                    iterate 21 (refine UpT.wpUp_pass (by rfl) ?_; simp only [Act.put, List.setIfInBounds_toArray, List.set_cons_zero, List.set_cons_succ])
                    refine UpT.wpUp_end ?_
                    intro wq3 hb6 hf
                    clear hf
                    simp only [List.drop_succ_cons, List.drop_zero]
                    go_wp2
                    go_roundw
                    case rel => exact ⟨_, j + 1, rfl, by go_num, by omega, hKq2.stays hb6, hPq2.stays hb6⟩
                    case measure => simp [intOf]; omega
                · have hq7 : decide ((j : Int) < (LI : Int)) = false := by simp; omega
                  go_wp2
                  go_roundw
                  case rel => exact ⟨i + 1, D.1.1, D.1.2, psI, by go_num, by omega, by omega, hPq, hKq, HSI⟩
                  case measure => simp [intOf]; omega
          · have hhi : (L : Int) ≤ wh := by omega
            clear hin
            have hw1 : decide ((0 : Int) ≤ wh) = true := by simp; omega
            have hw2 : decide (wh < (L : Int)) = false := by simp; omega
            obtain ⟨Q, hQe'⟩ : ∃ Q, Q = X.p := ⟨_, rfl⟩
            have hqok : Q.ok := by rw [hQe']; exact HXO.out.p
            obtain ⟨qv, hqv⟩ : ∃ qv, qv = Q.vs := ⟨_, rfl⟩
            have HXQ : Hid (xv = qv) := by show _ = _; rw [HXV.out, hqv, hQe']
            clear hQe'
            have HQV : Hid (qv = Q.vs) := hqv
            have hqvl : qv.length = 35 := by rw [hqv]; exact Pt.vs_len hqok
            have hqvo : ∀ v ∈ qv, v.oneCell' = true := by rw [hqv]; exact Pt.vs_one _
            have HQOK : Hid Q.ok := hqok
            have htok := doK_tok hKr' X Q
            have hdl := doK_len S l X Q
            obtain ⟨D, hD⟩ : ∃ D, D = doK S l X Q := ⟨_, rfl⟩
            have HD : Hid (D = doK S l X Q) := hD
            rw [← hD] at htok hdl
            have HTOK : Hid D.2.p.ok := htok
            have HDL : Hid (D.1.1.ws.length ≤ S.ws.length + 8) := hdl
            obtain ⟨tv, htv⟩ : ∃ tv, tv = D.2.vs := ⟨_, rfl⟩
            have HTV : Hid (tv = D.2.vs) := htv
            have htvl : tv.length = 40 := by rw [htv]; exact Told.vs_len htok
            have htvo : ∀ v ∈ tv, v.oneCell' = true := by rw [htv]; exact Told.vs_one _
            obtain ⟨ev, hev⟩ : ∃ ev, ev = D.2.e := ⟨_, rfl⟩
            have HTE : Hid (tv[39]? = some (.int .i64 ev)) := by rw [htv, hev]; exact Told.at_e htok
            obtain ⟨tpv, htpv⟩ : ∃ tpv, tpv = D.2.p.vs := ⟨_, rfl⟩
            have HTPV : Hid (tpv = D.2.p.vs) := htpv
            have HTP : Hid (tpv = (tv.drop 0).take 35) := by rw [htpv, htv]; exact Told.at_p htok
            have htpl : tpv.length = 35 := by rw [htpv]; exact Pt.vs_len htok
            have HONE : Hid (∀ w : World, (Instr.buildSlice 38 1 [(0, Value.agg tpv.toArray)].toArray).run Tryd.prog w = .ok (.slice (some ⟨w.heap.size, 0, none⟩) 1 1) (w.alloc (.cells tpv.toArray 42))) := by rw [htpv]; exact run_onep D.2.p htok
            clear hqok hD htok hdl htv hev htpv hqv
            by_cases hk1 : kd = 1
            · subst hk1
              by_cases he1 : ev = 0
              · subst he1
                go_wp2_with (first
                  | ((with_reducible show wpList _ _ _ (Oper.mk _ (Op.load 45 (.tmp 35)) _ _ _ _ :: _) _ _); refine wpList_load_cells (by rfl) (.tmp 35) 45 (by rfl) b (off + i * 40) 40 (by rfl) agg_actK size_actK av hcA hal40 ?_)
                  | ((with_reducible show wpList _ _ _ (Oper.mk (some 9) (Op.alloc 45) _ _ _ _ :: _) _ _); refine wpList_alloc0 (by rfl) 45 (by rfl) (some 9) (by rfl) _ HALA.out ?_; intro wa hAa hba hsa
                     have hPa := hPr'.stays hba
                     have hKa := hKr'.new (N := fun j => rowOf (.slice pa L pc) j ∨ j = wr.heap.size) hba (fun j hj => hj.imp id (fun e => by rw [e]; exact ⟨Nat.le_refl _, by omega⟩))
                     have hnrA : ¬ rowOf (.slice pa L pc) wr.heap.size := fun hj => by have := (hPr'.lt hj).2; omega)
                  | ((with_reducible show wpList _ _ _ (Oper.mk _ (Op.store 45 (.tmp 9) _) _ _ _ _ :: _) _ _); refine wpList_store_blk (by rfl) (.tmp 9) (.tmp 36) 45 (by rfl) _ 0 40 (by rfl) av (by rfl) size_actK hAa hal40 (by omega) halo _ (whole_store hzal) ?_
                     intro wb hAb hbutb hsb
                     have hKb := hKa.set hbutb (.inr rfl) hKr'.bel.size
                     have hPb := hPa.but hbutb hnrA
                     have HSB : Hid (wb.heap.size = wr.heap.size + 1) := by show _ = _; omega
                     have hc39 : wb.cell? ⟨wr.heap.size, 39, none⟩ = some (.slice X.ba nb X.bc) := (hAb.cell 39).trans HC.out.2.2.2.2
                     clear hsa hsb hAa hba hPa hKa hbutb)
                  | ((with_reducible show wpList _ _ _ (Oper.mk _ (Op.load 42 (.tmp 41)) _ _ _ _ :: _) _ _); refine wpList_load_blk (by rfl) (.tmp 41) 42 (by rfl) _ 4 35 (by rfl) agg_ptr size_ptr hAb xv HXP.out hxvl ?_)
                  | ((with_reducible show wpList _ _ _ (Oper.mk (some 10) (Op.alloc 42) _ _ _ _ :: _) _ _); refine wpList_alloc0 (by rfl) 42 (by rfl) (some 10) (by rfl) _ HALP.out ?_; intro wc hQc hbc hsc
                     have hAc := hAb.stays hbc
                     have hPc := hPb.stays hbc
                     have hKc := hKb.new (N := fun j => (rowOf (.slice pa L pc) j ∨ j = wr.heap.size) ∨ j = wb.heap.size) hbc (fun j hj => hj.imp id (fun e => by rw [e]; exact ⟨Nat.le_refl _, by omega⟩))
                     have hnrQ : ¬ rowOf (.slice pa L pc) wb.heap.size := fun hj => by have := (hPb.lt hj).2; omega)
                  | ((with_reducible show wpList _ _ _ (Oper.mk _ (Op.store 42 (.tmp 10) (.tmp 42)) _ _ _ _ :: _) _ _); refine wpList_store_blk (by rfl) (.tmp 10) (.tmp 42) 42 (by rfl) _ 0 35 (by rfl) xv (by rfl) size_ptr hQc hxvl (by omega) hxvo _ (whole_store hzpl) ?_
                     intro wd hQd hbutd hsd
                     have hAd := hAc.but hbutd (by have := HSB.out; omega)
                     have hPd := hPc.but hbutd hnrQ
                     have hKd := hKc.set hbutd (.inr rfl) (by have := hKb.bel.size; omega)
                     have hc2 : wd.cell? ⟨wr.heap.size, 2, none⟩ = some (.int .i64 wh) := (hAd.cell 2).trans HC.out.2.2.1
                     clear hAc hPc hKc hbutd hQc hbc hsc hsd hc39
                     have hAe := hAd
                     have hPe := hPd
                     have hKe := hKd
                     have hQe := hQd
                     rw [HXQ.out] at hQe
                     have hdo := do_run hKe HV1.out HSL.out X HXO.out HXL.out Q HQOK.out
                     rw [← HD.out, ← HAV.out, ← HQV.out, ← HTV.out] at hdo)
                  | ((with_reducible show wpList _ _ _ (Oper.mk _ (Op.load 45 (.tmp 9)) _ _ _ _ :: _) _ _); refine wpList_load_blk (by rfl) (.tmp 9) 45 (by rfl) _ 0 40 (by rfl) agg_actK size_actK hAe _ (whole_load hal40) hal40 ?_)
                  | ((with_reducible show wpList _ _ _ (Oper.mk _ (Op.load 42 (.tmp 10)) _ _ _ _ :: _) _ _); refine wpList_load_blk (by rfl) (.tmp 10) 42 (by rfl) _ 0 35 (by rfl) agg_ptr size_ptr hQe _ (whole_load hqvl) hqvl ?_)
                  | (go_at_call 7; go_must (refine hdo.mono ?_); rintro e wf ⟨rfl, hKf, hyf⟩
                     have hAf := hyf.blk hAe (.inl (.inr rfl))
                     have hPf := hPe.stay hyf (fun j hj => .inl (.inl hj))
                     have hKf' := hKf.less (N := rowOf (.slice pa L pc)) (fun j hj => .inl (.inl hj))
                     have hnrT : ¬ rowOf (.slice pa L pc) wf.heap.size := fun hj => by have := (hPf.lt hj).2; omega
                     have hltA := hAf.lt
                     dsimp only []
                     apply_assumption
                     refine wpList_alloc0 (by rfl) 49 (by rfl) (some 11) (by rfl) _ HALT.out ?_
                     intro wg hTg hbg hsg
                     have hAg := hAf.stays hbg
                     have hPg := hPf.stays hbg
                     have hKg := hKf'.new (N := fun j => rowOf (.slice pa L pc) j ∨ j = wf.heap.size) hbg (fun j hj => hj.imp id (fun e => by rw [e]; exact ⟨Nat.le_refl _, by omega⟩))
                     refine wpList_store_blk (by rfl) (.tmp 11) (.tmp 62) 49 (by rfl) _ 0 40 (by rfl) tv (by rfl) size_told hTg htvl (by omega) htvo _ (whole_store hztl) ?_
                     intro wh' hTh hbuth hsh
                     have hAh := hAg.but hbuth (by omega)
                     have hPh' := hPg.but hbuth hnrT
                     have hKh := (hKg.set hbuth (.inr rfl) hKf.bel.size).less (N := rowOf (.slice pa L pc)) (fun j hj => .inl hj)
                     have hc0 : wh'.cell? ⟨wr.heap.size, 0, none⟩ = some (.int .i64 1) := (hAh.cell 0).trans HC.out.1
                     have hce : wh'.cell? ⟨wf.heap.size, 39, none⟩ = some (.int .i64 0) := (hTh.cell 39).trans HTE.out
                     clear hKf hyf hAf hPf hKf' hltA hAg hPg hKg hbg hsg hTg hsh hbuth hAe hPe hKe hQe hdo hc2)
                  | ((with_reducible show wpList _ _ _ (Oper.mk _ (Op.load 42 (.tmp 72)) _ _ _ _ :: _) _ _); refine wpList_load_blk (by rfl) (.tmp 72) 42 (by rfl) _ 0 35 (by rfl) agg_ptr size_ptr hTh tpv HTP.out htpl ?_)
                  | ((with_reducible show wpList _ _ _ (Oper.mk _ (Op.buildSlice 38 1 _) _ _ _ _ :: _) _ _); refine wpList_onep (by rfl) (.tmp 73) (by rfl) (some 74) (by rfl) tpv (by rfl) HONE.out ?_; intro wi b9 hb9e hRi hbi hsi
                     have hPi := hPh'.stays hbi
                     rw [HTPV.out] at hRi
                     have hKi := hKh.stays hbi)
                  | ((with_reducible show wpList _ _ _ (Oper.mk _ (Op.call { callee := _, args := #[Operand.tmp 71, Operand.tmp 74], argTypes := _ }) _ _ _ _ :: _) _ _); go_must (refine wpList_append_ptr (by rfl) (.tmp 71) (.tmp 74) (by rfl) w1.heap.size (.slice pa L pc) _ (by rfl) hPi b9 D.2.p HTOK.out (by rfl) hRi (by have := HS.out; omega) hKi.bel.size ?_); intro v8 w8 hP8 hg8 hr8
                     have hK8 := hKi.grown hg8 (fun j hj => ⟨hj, (hPi.lt hj).1⟩) (N := rowOf v8) (fun j hj => hr8 j hj)
                     clear hg8 hr8 hKi hPi hRi hbi hsi hb9e))
                obtain ⟨ia, ic, rfl⟩ := hP8.form
                obtain ⟨LI, hLI⟩ : ∃ LI, LI = (ps ++ [D.2.p]).length := ⟨_, rfl⟩
                have HLI : Hid (LI = (ps ++ [D.2.p]).length) := hLI
                have hPI : Plist w1.heap.size w8 (.slice ia LI ic) (ps ++ [D.2.p]) := by rw [hLI]; exact hP8
                have hKI : BS w1 w8 (rowOf (.slice ia LI ic)) k p g D.1.1 D.1.2 7 := by rw [hLI]; exact hK8
                obtain ⟨psI, hpsI⟩ : ∃ psI, psI = ps ++ [D.2.p] := ⟨_, rfl⟩
                rw [← hpsI] at hPI HLI
                rw [← hLI]
                have HSI : Hid (D.1.1.ws.length ≤ 8 * (i + 1) ∧ psI.length ≤ (i + 1) + 1) := by show _ ∧ _; rw [hpsI]; have := HS.out; have := HDL.out; exact ⟨by omega, (by rw [List.length_append, List.length_singleton]; omega)⟩
                clear hLI hpsI hP8 hK8
                have hLI31 : LI ≤ 31 := by have h1 := HSI.out.2; have h2 := HLI.out; omega
                go_wp2
                go_loopw [12] (fun x wq => ∃ (q : World) (j : Nat), q = wq ∧ x = .int .i64 j ∧ j ≤ LI ∧ BS w1 wq (rowOf (.slice ia LI ic)) k p g D.1.1 D.1.2 7 ∧ Plist w1.heap.size wq (.slice ia LI ic) psI) (fun x _ => LI - (intOf x).toNat)
                case atStart => exact ⟨_, 0, rfl, rfl, by omega, hKI, hPI⟩
                case round =>
                  clear hKI hPI
                  have hrelI := hrel
                  clear hrel
                  obtain ⟨wq, j, rfl, rfl, hjL, hKq, hPq⟩ := hrelI
                  by_cases hltI : j < LI
                  · have hq7 : decide ((j : Int) < (LI : Int)) = true := by simp; omega
                    have hjp : j < psI.length := by rw [← HLI.out]; exact hltI
                    obtain ⟨bq, cb, hve, hrb, hcellI, hpok⟩ := hPq.at (i := j) hjp
                    have hcv : ia = some ⟨bq, 0, none⟩ := by simp only [Value.slice.injEq] at hve; exact hve.1
                    subst hcv
                    have hixI : ∀ u : World, (Instr.indexAt 38 (.slice (some ⟨bq, 0, none⟩) LI ic) (.int .i64 (j : Int))).run Tryd.prog u = .ok (.pointer (some ⟨bq, j * 35, none⟩)) u := fun u => index_ptrs bq LI ic j hltI u
                    obtain ⟨P, hPe⟩ : ∃ P, P = psI.getD j default := ⟨_, rfl⟩
                    rw [← hPe] at hcellI hpok
                    have HPOK : Hid P.ok := hpok
                    have hvl : P.vs.length = 35 := Pt.vs_len hpok
                    obtain ⟨nS, hok⟩ := hKq.ok
                    have hnev := read_never hok P
                    have hrlen := readK_len hok P
                    have HSLI : Hid (D.1.1.ws.length ≤ 800000) := by show _ ≤ _; have := HSI.out; omega
                    have hrd := bs_read hKq HV1.out HSLI.out P hpok
                    have hPh := Pt.at_h hpok
                    obtain ⟨hs, hhs⟩ : ∃ hs, hs = P.h.map (Value.int .u8) := ⟨_, rfl⟩
                    have HHS : Hid (hs = P.h.map (Value.int .u8)) := hhs
                    have hhl : hs.length = 32 := by rw [hhs, List.length_map, hpok.len]
                    rw [← hhs] at hPh
                    obtain ⟨vs, hvs⟩ : ∃ vs, vs = P.vs := ⟨_, rfl⟩
                    have HVS : Hid (vs = P.vs) := hvs
                    rw [← hvs] at hcellI hvl hrd hPh
                    obtain ⟨RB, hRB⟩ : ∃ RB, RB = (readK D.1.1 P).1 := ⟨_, rfl⟩
                    obtain ⟨ER, hER⟩ : ∃ ER, ER = (readK D.1.1 P).2 := ⟨_, rfl⟩
                    rw [← hRB, ← hER] at hrd hnev hrlen
                    have HNEV : Hid (ER = 0 → RB.length = 256 ∧ (shaOf RB = P.h ∨ P = Pt.zero)) := hnev
                    have HPJ : Hid (psI.getD j default = P) := hPe.symm
                    clear hRB hER hvs hhs hPe hve hok hjp hnev
                    by_cases he0 : ER = 0
                    · subst he0
                      have hl256 : RB.length = 256 := (HNEV.out rfl).1
                      have HNV : Hid (shaOf RB = P.h ∨ P = Pt.zero) := (HNEV.out rfl).2
                      clear HNEV
                      rw [hl256] at hrd
                      clear hrlen
                      go_wp2_with (first
                        | ((with_reducible show wpList _ _ _ (Oper.mk _ (Op.load 42 (.tmp 86)) _ _ _ _ :: _) _ _); refine wpList_load_cells (by rfl) (.tmp 86) 42 (by rfl) bq (j * 35) 35 (by rfl) agg_ptr size_ptr vs hcellI hvl ?_)
                        | (go_at_call 17; go_must (refine hrd.mono ?_); rintro e wq2 ⟨a5, c5, rfl, hN5, hb5⟩))
                      have hKq2 := hKq.stays hb5
                      have hPq2 := hPq.stays hb5
                      have hsum2 : ∀ u, Below wq2.heap.size wq2 u → Calls Tryd.prog 18 #[.slice a5 256 c5] u fun e w' => e = .returned (.agg ((shaOf RB).map (Value.int .u8)).toArray) ∧ Below u.heap.size u w' := fun u hu => by
                        have := sum_run a5 c5 _ u (hN5.1.stays hu) ((hKq2.stays hu).vars HV1.out) (by rw [hl256]; omega)
                        rw [hl256] at this
                        exact this
                      have hcq2 : ∀ u, Below wq2.heap.size wq2 u → ∀ m, m < 35 → u.cell? ⟨bq, j * 35 + m, none⟩ = vs[m]? := fun u hu m hm => by rw [HVS.out]; exact ((hPq2.stays hu).cells (i := j) (by rw [← HLI.out]; exact hltI) m hm).trans (by rw [HPJ.out])
                      have hldh : ∀ u, Below wq2.heap.size wq2 u → (Instr.loadAt 39 (.pointer (some ⟨bq, j * 35, none⟩))).run Tryd.prog u = .ok (.agg hs.toArray) u := fun u hu => run_load_cells agg_hsh size_hash (fun m hm => (hcq2 u hu m (by omega)).trans (hPh m hm)) hhl
                      have hldp : ∀ u, Below wq2.heap.size wq2 u → (Instr.loadAt 42 (.pointer (some ⟨bq, j * 35, none⟩))).run Tryd.prog u = .ok (.agg vs.toArray) u := fun u hu => run_load_cells agg_ptr size_ptr (hcq2 u hu) hvl
                      have heq := fun u => sum_equal P HPOK.out (shaOf RB) (shaOf_length _) u
                      rw [← HHS.out] at heq
                      obtain ⟨ss, hss⟩ : ∃ ss, ss = (shaOf RB).map (Value.int .u8) := ⟨_, rfl⟩
                      rw [← hss] at heq hsum2
                      by_cases hsame : (shaOf RB == P.h) = true
                      · rw [hsame] at heq
                        have HEQ : Hid (∀ u, (Op.equalIn 10000 39 (.agg ss.toArray) (.agg hs.toArray)).run Tryd.prog u = .ok true u) := heq
                        clear heq hss hcellI hrd hcq2 hPh hKq hPq hb5 hN5
                        refine UpT.wp_region_tail 24 (UpT.tell [(8, isV (.agg ss.toArray))]) (fun _ => false) (by kernel_rfl) (by kernel_rfl) (UpT.tell_steady _ (by
                          intro p hp
                          simp only [List.mem_cons, List.not_mem_nil, or_false] at hp
                          rcases hp with rfl <;> first | exact isV_steady _ | exact slB_steady _ _)) ?_
                        simp only [List.take_succ_cons, List.take_zero]
                        iterate 3 (apply UpT.wpUp_pure; (case hw => rfl); (case hψ => rfl); (case hv => (intro wz hp; clear hp; go_simp; try (with_reducible rfl))); simp only [Act.put, List.setIfInBounds_toArray, List.set_cons_zero, List.set_cons_succ])
                        iterate 5 (apply UpT.wpUp_pure; (case hw => rfl); (case hψ => rfl); (case hv => (intro wz hp; clear hp; go_simp; try (with_reducible rfl))); simp only [Act.put, List.setIfInBounds_toArray, List.set_cons_zero, List.set_cons_succ])
                        refine UpT.wpUp_call _ 18 #[.slice a5 256 c5] (by rfl) (by rfl) (by rfl) (fun wz => by go_simp) (fun wz hp => calls_isV (hsum2 wz hp.1)) ?_
                        rintro v ⟨u, _, hf⟩
                        obtain rfl := hf.of 8 v _ rfl rfl
                        clear hf
                        simp only [Act.put, List.setIfInBounds_toArray, List.set_cons_zero, List.set_cons_succ]
                        iterate 4 (apply UpT.wpUp_pure; (case hw => rfl); (case hψ => rfl); (case hv => (intro wz hp; clear hp; go_simp; try (with_reducible rfl))); simp only [Act.put, List.setIfInBounds_toArray, List.set_cons_zero, List.set_cons_succ])
                        refine UpT.wpUp_pure (.agg hs.toArray) (by rfl) (by rfl) (fun wz hp => exec_load (by rfl) (by rfl) (hldh wz hp.1)) ?_
                        simp only [Act.put, List.setIfInBounds_toArray, List.set_cons_zero, List.set_cons_succ]
                        have heq := HEQ.out
                        iterate 2 (apply UpT.wpUp_pure; (case hw => rfl); (case hψ => rfl); (case hv => (intro wz hp; clear hp; go_simp; try (with_reducible rfl))); simp only [Act.put, List.setIfInBounds_toArray, List.set_cons_zero, List.set_cons_succ])
                        iterate 6 (refine UpT.wpUp_pass (by rfl) ?_; simp only [Act.put, List.setIfInBounds_toArray, List.set_cons_zero, List.set_cons_succ])
                        iterate 2 (apply UpT.wpUp_pure; (case hw => rfl); (case hψ => rfl); (case hv => (intro wz hp; clear hp; go_simp; try (with_reducible rfl))); simp only [Act.put, List.setIfInBounds_toArray, List.set_cons_zero, List.set_cons_succ])
                        refine UpT.wpUp_end ?_
                        intro wq3 hb6 hf
                        clear hf
                        simp only [List.drop_succ_cons, List.drop_zero]
                        go_wp2
                        go_roundw
                        case rel => exact ⟨_, j + 1, rfl, by go_num, by omega, hKq2.stays hb6, hPq2.stays hb6⟩
                        case measure => simp [intOf]; omega
                      · have hsame' : (shaOf RB == P.h) = false := by simpa using hsame
                        rw [hsame'] at heq
                        have HEQ : Hid (∀ u, (Op.equalIn 10000 39 (.agg ss.toArray) (.agg hs.toArray)).run Tryd.prog u = .ok false u) := heq
                        have hz : P = Pt.zero := by
                          rcases HNV.out with h1 | h1
                          · exact absurd (by simpa using h1) hsame
                          · exact h1
                        have HPEQ : Hid (∀ u, (Op.equalIn 10000 42 (.agg vs.toArray) (.agg zp.toArray)).run Tryd.prog u = .ok true u) := by
                          show ∀ u, _
                          intro u
                          rw [HVS.out, HZP.out, ptr_zero_equal P HPOK.out u, hz]
                          rfl
                        clear heq hss hcellI hrd hcq2 hPh hKq hPq hb5 hN5 hz hsame hsame'
                        refine UpT.wp_region_tail 24 (UpT.tell [(8, isV (.agg ss.toArray))]) (fun _ => false) (by kernel_rfl) (by kernel_rfl) (UpT.tell_steady _ (by
                          intro p hp
                          simp only [List.mem_cons, List.not_mem_nil, or_false] at hp
                          rcases hp with rfl <;> first | exact isV_steady _ | exact slB_steady _ _)) ?_
                        simp only [List.take_succ_cons, List.take_zero]
                        iterate 3 (apply UpT.wpUp_pure; (case hw => rfl); (case hψ => rfl); (case hv => (intro wz hp; clear hp; go_simp; try (with_reducible rfl))); simp only [Act.put, List.setIfInBounds_toArray, List.set_cons_zero, List.set_cons_succ])
                        iterate 5 (apply UpT.wpUp_pure; (case hw => rfl); (case hψ => rfl); (case hv => (intro wz hp; clear hp; go_simp; try (with_reducible rfl))); simp only [Act.put, List.setIfInBounds_toArray, List.set_cons_zero, List.set_cons_succ])
                        refine UpT.wpUp_call _ 18 #[.slice a5 256 c5] (by rfl) (by rfl) (by rfl) (fun wz => by go_simp) (fun wz hp => calls_isV (hsum2 wz hp.1)) ?_
                        rintro v ⟨u, _, hf⟩
                        obtain rfl := hf.of 8 v _ rfl rfl
                        clear hf
                        simp only [Act.put, List.setIfInBounds_toArray, List.set_cons_zero, List.set_cons_succ]
                        iterate 4 (apply UpT.wpUp_pure; (case hw => rfl); (case hψ => rfl); (case hv => (intro wz hp; clear hp; go_simp; try (with_reducible rfl))); simp only [Act.put, List.setIfInBounds_toArray, List.set_cons_zero, List.set_cons_succ])
                        refine UpT.wpUp_pure (.agg hs.toArray) (by rfl) (by rfl) (fun wz hp => exec_load (by rfl) (by rfl) (hldh wz hp.1)) ?_
                        simp only [Act.put, List.setIfInBounds_toArray, List.set_cons_zero, List.set_cons_succ]
                        have heq := HEQ.out
                        iterate 2 (apply UpT.wpUp_pure; (case hw => rfl); (case hψ => rfl); (case hv => (intro wz hp; clear hp; go_simp; try (with_reducible rfl))); simp only [Act.put, List.setIfInBounds_toArray, List.set_cons_zero, List.set_cons_succ])
                        iterate 3 (apply UpT.wpUp_pure; (case hw => rfl); (case hψ => rfl); (case hv => (intro wz hp; clear hp; go_simp; try (with_reducible rfl))); simp only [Act.put, List.setIfInBounds_toArray, List.set_cons_zero, List.set_cons_succ])
                        refine UpT.wpUp_pure (.agg vs.toArray) (by rfl) (by rfl) (fun wz hp => exec_load (by rfl) (by rfl) (hldp wz hp.1)) ?_
                        simp only [Act.put, List.setIfInBounds_toArray, List.set_cons_zero, List.set_cons_succ]
                        refine UpT.wpUp_pure (.agg zp.toArray) (by rfl) (by rfl) (fun wz hp => exec_build0 (by rfl) (HBUP.out wz)) ?_
                        simp only [Act.put, List.setIfInBounds_toArray, List.set_cons_zero, List.set_cons_succ]
                        have hpeq := HPEQ.out
                        iterate 3 (apply UpT.wpUp_pure; (case hw => rfl); (case hψ => rfl); (case hv => (intro wz hp; clear hp; go_simp; try (with_reducible rfl))); simp only [Act.put, List.setIfInBounds_toArray, List.set_cons_zero, List.set_cons_succ])
                        refine UpT.wpUp_end ?_
                        intro wq3 hb6 hf
                        clear hf
                        simp only [List.drop_succ_cons, List.drop_zero]
                        go_wp2
                        go_roundw
                        case rel => exact ⟨_, j + 1, rfl, by go_num, by omega, hKq2.stays hb6, hPq2.stays hb6⟩
                        case measure => simp [intOf]; omega
                    · have heb : (ER == 0) = false := by simp [he0]
                      have heb2 : decide (ER = 0) = false := by simp [he0]
                      rcases hrlen with hrl | hrl
                      · exact absurd hrl.1 he0
                      rw [hrl.2] at hrd
                      simp only [List.length_nil] at hrd
                      go_wp2_with (first
                        | ((with_reducible show wpList _ _ _ (Oper.mk _ (Op.load 42 (.tmp 86)) _ _ _ _ :: _) _ _); refine wpList_load_cells (by rfl) (.tmp 86) 42 (by rfl) bq (j * 35) 35 (by rfl) agg_ptr size_ptr vs hcellI hvl ?_)
                        | (go_at_call 17; go_must (refine hrd.mono ?_); rintro e wq2 ⟨a5, c5, rfl, hN5, hb5⟩))
                      have hKq2 := hKq.stays hb5
                      have hPq2 := hPq.stays hb5
                      obtain ⟨ss, hss⟩ : ∃ ss : List Value, ss = [] := ⟨_, rfl⟩
                      clear hss hcellI hrd hPh hKq hPq hb5 hN5
                      refine UpT.wp_region_tail 24 (UpT.tell [(8, isV (.agg ss.toArray))]) (fun _ => false) (by kernel_rfl) (by kernel_rfl) (UpT.tell_steady _ (by
                        intro p hp
                        simp only [List.mem_cons, List.not_mem_nil, or_false] at hp
                        rcases hp with rfl <;> first | exact isV_steady _ | exact slB_steady _ _)) ?_
                      simp only [List.take_succ_cons, List.take_zero]
                      iterate 3 (apply UpT.wpUp_pure; (case hw => rfl); (case hψ => rfl); (case hv => (intro wz hp; clear hp; go_simp; try (with_reducible rfl))); simp only [Act.put, List.setIfInBounds_toArray, List.set_cons_zero, List.set_cons_succ])
                      iterate 21 (refine UpT.wpUp_pass (by rfl) ?_; simp only [Act.put, List.setIfInBounds_toArray, List.set_cons_zero, List.set_cons_succ])
                      refine UpT.wpUp_end ?_
                      intro wq3 hb6 hf
                      clear hf
                      simp only [List.drop_succ_cons, List.drop_zero]
                      go_wp2
                      go_roundw
                      case rel => exact ⟨_, j + 1, rfl, by go_num, by omega, hKq2.stays hb6, hPq2.stays hb6⟩
                      case measure => simp [intOf]; omega
                  · have hq7 : decide ((j : Int) < (LI : Int)) = false := by simp; omega
                    go_wp2
                    go_roundw
                    case rel => exact ⟨i + 1, D.1.1, D.1.2, psI, by go_num, by omega, by omega, hPq, hKq, HSI⟩
                    case measure => simp [intOf]; omega
              · have hee1 : (ev == 0) = false := by simp [he1]
                have hee2 : decide (ev = 0) = false := by simp [he1]
                go_wp2_with (first
                  | ((with_reducible show wpList _ _ _ (Oper.mk _ (Op.load 45 (.tmp 35)) _ _ _ _ :: _) _ _); refine wpList_load_cells (by rfl) (.tmp 35) 45 (by rfl) b (off + i * 40) 40 (by rfl) agg_actK size_actK av hcA hal40 ?_)
                  | ((with_reducible show wpList _ _ _ (Oper.mk (some 9) (Op.alloc 45) _ _ _ _ :: _) _ _); refine wpList_alloc0 (by rfl) 45 (by rfl) (some 9) (by rfl) _ HALA.out ?_; intro wa hAa hba hsa
                     have hPa := hPr'.stays hba
                     have hKa := hKr'.new (N := fun j => rowOf (.slice pa L pc) j ∨ j = wr.heap.size) hba (fun j hj => hj.imp id (fun e => by rw [e]; exact ⟨Nat.le_refl _, by omega⟩))
                     have hnrA : ¬ rowOf (.slice pa L pc) wr.heap.size := fun hj => by have := (hPr'.lt hj).2; omega)
                  | ((with_reducible show wpList _ _ _ (Oper.mk _ (Op.store 45 (.tmp 9) _) _ _ _ _ :: _) _ _); refine wpList_store_blk (by rfl) (.tmp 9) (.tmp 36) 45 (by rfl) _ 0 40 (by rfl) av (by rfl) size_actK hAa hal40 (by omega) halo _ (whole_store hzal) ?_
                     intro wb hAb hbutb hsb
                     have hKb := hKa.set hbutb (.inr rfl) hKr'.bel.size
                     have hPb := hPa.but hbutb hnrA
                     have HSB : Hid (wb.heap.size = wr.heap.size + 1) := by show _ = _; omega
                     have hc39 : wb.cell? ⟨wr.heap.size, 39, none⟩ = some (.slice X.ba nb X.bc) := (hAb.cell 39).trans HC.out.2.2.2.2
                     clear hsa hsb hAa hba hPa hKa hbutb)
                  | ((with_reducible show wpList _ _ _ (Oper.mk _ (Op.load 42 (.tmp 41)) _ _ _ _ :: _) _ _); refine wpList_load_blk (by rfl) (.tmp 41) 42 (by rfl) _ 4 35 (by rfl) agg_ptr size_ptr hAb xv HXP.out hxvl ?_)
                  | ((with_reducible show wpList _ _ _ (Oper.mk (some 10) (Op.alloc 42) _ _ _ _ :: _) _ _); refine wpList_alloc0 (by rfl) 42 (by rfl) (some 10) (by rfl) _ HALP.out ?_; intro wc hQc hbc hsc
                     have hAc := hAb.stays hbc
                     have hPc := hPb.stays hbc
                     have hKc := hKb.new (N := fun j => (rowOf (.slice pa L pc) j ∨ j = wr.heap.size) ∨ j = wb.heap.size) hbc (fun j hj => hj.imp id (fun e => by rw [e]; exact ⟨Nat.le_refl _, by omega⟩))
                     have hnrQ : ¬ rowOf (.slice pa L pc) wb.heap.size := fun hj => by have := (hPb.lt hj).2; omega)
                  | ((with_reducible show wpList _ _ _ (Oper.mk _ (Op.store 42 (.tmp 10) (.tmp 42)) _ _ _ _ :: _) _ _); refine wpList_store_blk (by rfl) (.tmp 10) (.tmp 42) 42 (by rfl) _ 0 35 (by rfl) xv (by rfl) size_ptr hQc hxvl (by omega) hxvo _ (whole_store hzpl) ?_
                     intro wd hQd hbutd hsd
                     have hAd := hAc.but hbutd (by have := HSB.out; omega)
                     have hPd := hPc.but hbutd hnrQ
                     have hKd := hKc.set hbutd (.inr rfl) (by have := hKb.bel.size; omega)
                     have hc2 : wd.cell? ⟨wr.heap.size, 2, none⟩ = some (.int .i64 wh) := (hAd.cell 2).trans HC.out.2.2.1
                     clear hAc hPc hKc hbutd hQc hbc hsc hsd hc39
                     have hAe := hAd
                     have hPe := hPd
                     have hKe := hKd
                     have hQe := hQd
                     rw [HXQ.out] at hQe
                     have hdo := do_run hKe HV1.out HSL.out X HXO.out HXL.out Q HQOK.out
                     rw [← HD.out, ← HAV.out, ← HQV.out, ← HTV.out] at hdo)
                  | ((with_reducible show wpList _ _ _ (Oper.mk _ (Op.load 45 (.tmp 9)) _ _ _ _ :: _) _ _); refine wpList_load_blk (by rfl) (.tmp 9) 45 (by rfl) _ 0 40 (by rfl) agg_actK size_actK hAe _ (whole_load hal40) hal40 ?_)
                  | ((with_reducible show wpList _ _ _ (Oper.mk _ (Op.load 42 (.tmp 10)) _ _ _ _ :: _) _ _); refine wpList_load_blk (by rfl) (.tmp 10) 42 (by rfl) _ 0 35 (by rfl) agg_ptr size_ptr hQe _ (whole_load hqvl) hqvl ?_)
                  | (go_at_call 7; go_must (refine hdo.mono ?_); rintro e wf ⟨rfl, hKf, hyf⟩
                     have hAf := hyf.blk hAe (.inl (.inr rfl))
                     have hPf := hPe.stay hyf (fun j hj => .inl (.inl hj))
                     have hKf' := hKf.less (N := rowOf (.slice pa L pc)) (fun j hj => .inl (.inl hj))
                     have hnrT : ¬ rowOf (.slice pa L pc) wf.heap.size := fun hj => by have := (hPf.lt hj).2; omega
                     have hltA := hAf.lt
                     dsimp only []
                     apply_assumption
                     refine wpList_alloc0 (by rfl) 49 (by rfl) (some 11) (by rfl) _ HALT.out ?_
                     intro wg hTg hbg hsg
                     have hAg := hAf.stays hbg
                     have hPg := hPf.stays hbg
                     have hKg := hKf'.new (N := fun j => rowOf (.slice pa L pc) j ∨ j = wf.heap.size) hbg (fun j hj => hj.imp id (fun e => by rw [e]; exact ⟨Nat.le_refl _, by omega⟩))
                     refine wpList_store_blk (by rfl) (.tmp 11) (.tmp 62) 49 (by rfl) _ 0 40 (by rfl) tv (by rfl) size_told hTg htvl (by omega) htvo _ (whole_store hztl) ?_
                     intro wh' hTh hbuth hsh
                     have hAh := hAg.but hbuth (by omega)
                     have hPh' := hPg.but hbuth hnrT
                     have hKh := (hKg.set hbuth (.inr rfl) hKf.bel.size).less (N := rowOf (.slice pa L pc)) (fun j hj => .inl hj)
                     have hc0 : wh'.cell? ⟨wr.heap.size, 0, none⟩ = some (.int .i64 1) := (hAh.cell 0).trans HC.out.1
                     have hce : wh'.cell? ⟨wf.heap.size, 39, none⟩ = some (.int .i64 ev) := (hTh.cell 39).trans HTE.out
                     clear hKf hyf hAf hPf hKf' hltA hAg hPg hKg hbg hsg hTg hsh hbuth hAe hPe hKe hQe hdo hc2))
                obtain ⟨vI, hvI⟩ : ∃ vI, vI = Value.slice pa L pc := ⟨_, rfl⟩
                rw [← hvI] at hPh' hKh ⊢
                clear hvI
                obtain ⟨ia, ic, rfl⟩ := hPh'.form
                obtain ⟨LI, hLI⟩ : ∃ LI, LI = (ps).length := ⟨_, rfl⟩
                have HLI : Hid (LI = (ps).length) := hLI
                have hPI : Plist w1.heap.size wh' (.slice ia LI ic) (ps) := by rw [hLI]; exact hPh'
                have hKI : BS w1 wh' (rowOf (.slice ia LI ic)) k p g D.1.1 D.1.2 7 := by rw [hLI]; exact hKh
                obtain ⟨psI, hpsI⟩ : ∃ psI, psI = ps := ⟨_, rfl⟩
                rw [← hpsI] at hPI HLI
                rw [← hLI]
                have HSI : Hid (D.1.1.ws.length ≤ 8 * (i + 1) ∧ psI.length ≤ (i + 1) + 1) := by show _ ∧ _; rw [hpsI]; have := HS.out; have := HDL.out; exact ⟨by omega, by omega⟩
                clear hLI hpsI hPh' hKh
                have hLI31 : LI ≤ 31 := by have h1 := HSI.out.2; have h2 := HLI.out; omega
                go_wp2
                go_loopw [12] (fun x wq => ∃ (q : World) (j : Nat), q = wq ∧ x = .int .i64 j ∧ j ≤ LI ∧ BS w1 wq (rowOf (.slice ia LI ic)) k p g D.1.1 D.1.2 7 ∧ Plist w1.heap.size wq (.slice ia LI ic) psI) (fun x _ => LI - (intOf x).toNat)
                case atStart => exact ⟨_, 0, rfl, rfl, by omega, hKI, hPI⟩
                case round =>
                  clear hKI hPI
                  have hrelI := hrel
                  clear hrel
                  obtain ⟨wq, j, rfl, rfl, hjL, hKq, hPq⟩ := hrelI
                  by_cases hltI : j < LI
                  · have hq7 : decide ((j : Int) < (LI : Int)) = true := by simp; omega
                    have hjp : j < psI.length := by rw [← HLI.out]; exact hltI
                    obtain ⟨bq, cb, hve, hrb, hcellI, hpok⟩ := hPq.at (i := j) hjp
                    have hcv : ia = some ⟨bq, 0, none⟩ := by simp only [Value.slice.injEq] at hve; exact hve.1
                    subst hcv
                    have hixI : ∀ u : World, (Instr.indexAt 38 (.slice (some ⟨bq, 0, none⟩) LI ic) (.int .i64 (j : Int))).run Tryd.prog u = .ok (.pointer (some ⟨bq, j * 35, none⟩)) u := fun u => index_ptrs bq LI ic j hltI u
                    obtain ⟨P, hPe⟩ : ∃ P, P = psI.getD j default := ⟨_, rfl⟩
                    rw [← hPe] at hcellI hpok
                    have HPOK : Hid P.ok := hpok
                    have hvl : P.vs.length = 35 := Pt.vs_len hpok
                    obtain ⟨nS, hok⟩ := hKq.ok
                    have hnev := read_never hok P
                    have hrlen := readK_len hok P
                    have HSLI : Hid (D.1.1.ws.length ≤ 800000) := by show _ ≤ _; have := HSI.out; omega
                    have hrd := bs_read hKq HV1.out HSLI.out P hpok
                    have hPh := Pt.at_h hpok
                    obtain ⟨hs, hhs⟩ : ∃ hs, hs = P.h.map (Value.int .u8) := ⟨_, rfl⟩
                    have HHS : Hid (hs = P.h.map (Value.int .u8)) := hhs
                    have hhl : hs.length = 32 := by rw [hhs, List.length_map, hpok.len]
                    rw [← hhs] at hPh
                    obtain ⟨vs, hvs⟩ : ∃ vs, vs = P.vs := ⟨_, rfl⟩
                    have HVS : Hid (vs = P.vs) := hvs
                    rw [← hvs] at hcellI hvl hrd hPh
                    obtain ⟨RB, hRB⟩ : ∃ RB, RB = (readK D.1.1 P).1 := ⟨_, rfl⟩
                    obtain ⟨ER, hER⟩ : ∃ ER, ER = (readK D.1.1 P).2 := ⟨_, rfl⟩
                    rw [← hRB, ← hER] at hrd hnev hrlen
                    have HNEV : Hid (ER = 0 → RB.length = 256 ∧ (shaOf RB = P.h ∨ P = Pt.zero)) := hnev
                    have HPJ : Hid (psI.getD j default = P) := hPe.symm
                    clear hRB hER hvs hhs hPe hve hok hjp hnev
                    by_cases he0 : ER = 0
                    · subst he0
                      have hl256 : RB.length = 256 := (HNEV.out rfl).1
                      have HNV : Hid (shaOf RB = P.h ∨ P = Pt.zero) := (HNEV.out rfl).2
                      clear HNEV
                      rw [hl256] at hrd
                      clear hrlen
                      go_wp2_with (first
                        | ((with_reducible show wpList _ _ _ (Oper.mk _ (Op.load 42 (.tmp 86)) _ _ _ _ :: _) _ _); refine wpList_load_cells (by rfl) (.tmp 86) 42 (by rfl) bq (j * 35) 35 (by rfl) agg_ptr size_ptr vs hcellI hvl ?_)
                        | (go_at_call 17; go_must (refine hrd.mono ?_); rintro e wq2 ⟨a5, c5, rfl, hN5, hb5⟩))
                      have hKq2 := hKq.stays hb5
                      have hPq2 := hPq.stays hb5
                      have hsum2 : ∀ u, Below wq2.heap.size wq2 u → Calls Tryd.prog 18 #[.slice a5 256 c5] u fun e w' => e = .returned (.agg ((shaOf RB).map (Value.int .u8)).toArray) ∧ Below u.heap.size u w' := fun u hu => by
                        have := sum_run a5 c5 _ u (hN5.1.stays hu) ((hKq2.stays hu).vars HV1.out) (by rw [hl256]; omega)
                        rw [hl256] at this
                        exact this
                      have hcq2 : ∀ u, Below wq2.heap.size wq2 u → ∀ m, m < 35 → u.cell? ⟨bq, j * 35 + m, none⟩ = vs[m]? := fun u hu m hm => by rw [HVS.out]; exact ((hPq2.stays hu).cells (i := j) (by rw [← HLI.out]; exact hltI) m hm).trans (by rw [HPJ.out])
                      have hldh : ∀ u, Below wq2.heap.size wq2 u → (Instr.loadAt 39 (.pointer (some ⟨bq, j * 35, none⟩))).run Tryd.prog u = .ok (.agg hs.toArray) u := fun u hu => run_load_cells agg_hsh size_hash (fun m hm => (hcq2 u hu m (by omega)).trans (hPh m hm)) hhl
                      have hldp : ∀ u, Below wq2.heap.size wq2 u → (Instr.loadAt 42 (.pointer (some ⟨bq, j * 35, none⟩))).run Tryd.prog u = .ok (.agg vs.toArray) u := fun u hu => run_load_cells agg_ptr size_ptr (hcq2 u hu) hvl
                      have heq := fun u => sum_equal P HPOK.out (shaOf RB) (shaOf_length _) u
                      rw [← HHS.out] at heq
                      obtain ⟨ss, hss⟩ : ∃ ss, ss = (shaOf RB).map (Value.int .u8) := ⟨_, rfl⟩
                      rw [← hss] at heq hsum2
                      by_cases hsame : (shaOf RB == P.h) = true
                      · rw [hsame] at heq
                        have HEQ : Hid (∀ u, (Op.equalIn 10000 39 (.agg ss.toArray) (.agg hs.toArray)).run Tryd.prog u = .ok true u) := heq
                        clear heq hss hcellI hrd hcq2 hPh hKq hPq hb5 hN5
                        refine UpT.wp_region_tail 24 (UpT.tell [(8, isV (.agg ss.toArray))]) (fun _ => false) (by kernel_rfl) (by kernel_rfl) (UpT.tell_steady _ (by
                          intro p hp
                          simp only [List.mem_cons, List.not_mem_nil, or_false] at hp
                          rcases hp with rfl <;> first | exact isV_steady _ | exact slB_steady _ _)) ?_
                        simp only [List.take_succ_cons, List.take_zero]
                        iterate 3 (apply UpT.wpUp_pure; (case hw => rfl); (case hψ => rfl); (case hv => (intro wz hp; clear hp; go_simp; try (with_reducible rfl))); simp only [Act.put, List.setIfInBounds_toArray, List.set_cons_zero, List.set_cons_succ])
                        iterate 5 (apply UpT.wpUp_pure; (case hw => rfl); (case hψ => rfl); (case hv => (intro wz hp; clear hp; go_simp; try (with_reducible rfl))); simp only [Act.put, List.setIfInBounds_toArray, List.set_cons_zero, List.set_cons_succ])
                        refine UpT.wpUp_call _ 18 #[.slice a5 256 c5] (by rfl) (by rfl) (by rfl) (fun wz => by go_simp) (fun wz hp => calls_isV (hsum2 wz hp.1)) ?_
                        rintro v ⟨u, _, hf⟩
                        obtain rfl := hf.of 8 v _ rfl rfl
                        clear hf
                        simp only [Act.put, List.setIfInBounds_toArray, List.set_cons_zero, List.set_cons_succ]
                        iterate 4 (apply UpT.wpUp_pure; (case hw => rfl); (case hψ => rfl); (case hv => (intro wz hp; clear hp; go_simp; try (with_reducible rfl))); simp only [Act.put, List.setIfInBounds_toArray, List.set_cons_zero, List.set_cons_succ])
                        refine UpT.wpUp_pure (.agg hs.toArray) (by rfl) (by rfl) (fun wz hp => exec_load (by rfl) (by rfl) (hldh wz hp.1)) ?_
                        simp only [Act.put, List.setIfInBounds_toArray, List.set_cons_zero, List.set_cons_succ]
                        have heq := HEQ.out
                        iterate 2 (apply UpT.wpUp_pure; (case hw => rfl); (case hψ => rfl); (case hv => (intro wz hp; clear hp; go_simp; try (with_reducible rfl))); simp only [Act.put, List.setIfInBounds_toArray, List.set_cons_zero, List.set_cons_succ])
                        iterate 6 (refine UpT.wpUp_pass (by rfl) ?_; simp only [Act.put, List.setIfInBounds_toArray, List.set_cons_zero, List.set_cons_succ])
                        iterate 2 (apply UpT.wpUp_pure; (case hw => rfl); (case hψ => rfl); (case hv => (intro wz hp; clear hp; go_simp; try (with_reducible rfl))); simp only [Act.put, List.setIfInBounds_toArray, List.set_cons_zero, List.set_cons_succ])
                        refine UpT.wpUp_end ?_
                        intro wq3 hb6 hf
                        clear hf
                        simp only [List.drop_succ_cons, List.drop_zero]
                        go_wp2
                        go_roundw
                        case rel => exact ⟨_, j + 1, rfl, by go_num, by omega, hKq2.stays hb6, hPq2.stays hb6⟩
                        case measure => simp [intOf]; omega
                      · have hsame' : (shaOf RB == P.h) = false := by simpa using hsame
                        rw [hsame'] at heq
                        have HEQ : Hid (∀ u, (Op.equalIn 10000 39 (.agg ss.toArray) (.agg hs.toArray)).run Tryd.prog u = .ok false u) := heq
                        have hz : P = Pt.zero := by
                          rcases HNV.out with h1 | h1
                          · exact absurd (by simpa using h1) hsame
                          · exact h1
                        have HPEQ : Hid (∀ u, (Op.equalIn 10000 42 (.agg vs.toArray) (.agg zp.toArray)).run Tryd.prog u = .ok true u) := by
                          show ∀ u, _
                          intro u
                          rw [HVS.out, HZP.out, ptr_zero_equal P HPOK.out u, hz]
                          rfl
                        clear heq hss hcellI hrd hcq2 hPh hKq hPq hb5 hN5 hz hsame hsame'
                        refine UpT.wp_region_tail 24 (UpT.tell [(8, isV (.agg ss.toArray))]) (fun _ => false) (by kernel_rfl) (by kernel_rfl) (UpT.tell_steady _ (by
                          intro p hp
                          simp only [List.mem_cons, List.not_mem_nil, or_false] at hp
                          rcases hp with rfl <;> first | exact isV_steady _ | exact slB_steady _ _)) ?_
                        simp only [List.take_succ_cons, List.take_zero]
                        iterate 3 (apply UpT.wpUp_pure; (case hw => rfl); (case hψ => rfl); (case hv => (intro wz hp; clear hp; go_simp; try (with_reducible rfl))); simp only [Act.put, List.setIfInBounds_toArray, List.set_cons_zero, List.set_cons_succ])
                        iterate 5 (apply UpT.wpUp_pure; (case hw => rfl); (case hψ => rfl); (case hv => (intro wz hp; clear hp; go_simp; try (with_reducible rfl))); simp only [Act.put, List.setIfInBounds_toArray, List.set_cons_zero, List.set_cons_succ])
                        refine UpT.wpUp_call _ 18 #[.slice a5 256 c5] (by rfl) (by rfl) (by rfl) (fun wz => by go_simp) (fun wz hp => calls_isV (hsum2 wz hp.1)) ?_
                        rintro v ⟨u, _, hf⟩
                        obtain rfl := hf.of 8 v _ rfl rfl
                        clear hf
                        simp only [Act.put, List.setIfInBounds_toArray, List.set_cons_zero, List.set_cons_succ]
                        iterate 4 (apply UpT.wpUp_pure; (case hw => rfl); (case hψ => rfl); (case hv => (intro wz hp; clear hp; go_simp; try (with_reducible rfl))); simp only [Act.put, List.setIfInBounds_toArray, List.set_cons_zero, List.set_cons_succ])
                        refine UpT.wpUp_pure (.agg hs.toArray) (by rfl) (by rfl) (fun wz hp => exec_load (by rfl) (by rfl) (hldh wz hp.1)) ?_
                        simp only [Act.put, List.setIfInBounds_toArray, List.set_cons_zero, List.set_cons_succ]
                        have heq := HEQ.out
                        iterate 2 (apply UpT.wpUp_pure; (case hw => rfl); (case hψ => rfl); (case hv => (intro wz hp; clear hp; go_simp; try (with_reducible rfl))); simp only [Act.put, List.setIfInBounds_toArray, List.set_cons_zero, List.set_cons_succ])
                        iterate 3 (apply UpT.wpUp_pure; (case hw => rfl); (case hψ => rfl); (case hv => (intro wz hp; clear hp; go_simp; try (with_reducible rfl))); simp only [Act.put, List.setIfInBounds_toArray, List.set_cons_zero, List.set_cons_succ])
                        refine UpT.wpUp_pure (.agg vs.toArray) (by rfl) (by rfl) (fun wz hp => exec_load (by rfl) (by rfl) (hldp wz hp.1)) ?_
                        simp only [Act.put, List.setIfInBounds_toArray, List.set_cons_zero, List.set_cons_succ]
                        refine UpT.wpUp_pure (.agg zp.toArray) (by rfl) (by rfl) (fun wz hp => exec_build0 (by rfl) (HBUP.out wz)) ?_
                        simp only [Act.put, List.setIfInBounds_toArray, List.set_cons_zero, List.set_cons_succ]
                        have hpeq := HPEQ.out
                        iterate 3 (apply UpT.wpUp_pure; (case hw => rfl); (case hψ => rfl); (case hv => (intro wz hp; clear hp; go_simp; try (with_reducible rfl))); simp only [Act.put, List.setIfInBounds_toArray, List.set_cons_zero, List.set_cons_succ])
                        refine UpT.wpUp_end ?_
                        intro wq3 hb6 hf
                        clear hf
                        simp only [List.drop_succ_cons, List.drop_zero]
                        go_wp2
                        go_roundw
                        case rel => exact ⟨_, j + 1, rfl, by go_num, by omega, hKq2.stays hb6, hPq2.stays hb6⟩
                        case measure => simp [intOf]; omega
                    · have heb : (ER == 0) = false := by simp [he0]
                      have heb2 : decide (ER = 0) = false := by simp [he0]
                      rcases hrlen with hrl | hrl
                      · exact absurd hrl.1 he0
                      rw [hrl.2] at hrd
                      simp only [List.length_nil] at hrd
                      go_wp2_with (first
                        | ((with_reducible show wpList _ _ _ (Oper.mk _ (Op.load 42 (.tmp 86)) _ _ _ _ :: _) _ _); refine wpList_load_cells (by rfl) (.tmp 86) 42 (by rfl) bq (j * 35) 35 (by rfl) agg_ptr size_ptr vs hcellI hvl ?_)
                        | (go_at_call 17; go_must (refine hrd.mono ?_); rintro e wq2 ⟨a5, c5, rfl, hN5, hb5⟩))
                      have hKq2 := hKq.stays hb5
                      have hPq2 := hPq.stays hb5
                      obtain ⟨ss, hss⟩ : ∃ ss : List Value, ss = [] := ⟨_, rfl⟩
                      clear hss hcellI hrd hPh hKq hPq hb5 hN5
                      refine UpT.wp_region_tail 24 (UpT.tell [(8, isV (.agg ss.toArray))]) (fun _ => false) (by kernel_rfl) (by kernel_rfl) (UpT.tell_steady _ (by
                        intro p hp
                        simp only [List.mem_cons, List.not_mem_nil, or_false] at hp
                        rcases hp with rfl <;> first | exact isV_steady _ | exact slB_steady _ _)) ?_
                      simp only [List.take_succ_cons, List.take_zero]
                      iterate 3 (apply UpT.wpUp_pure; (case hw => rfl); (case hψ => rfl); (case hv => (intro wz hp; clear hp; go_simp; try (with_reducible rfl))); simp only [Act.put, List.setIfInBounds_toArray, List.set_cons_zero, List.set_cons_succ])
                      iterate 21 (refine UpT.wpUp_pass (by rfl) ?_; simp only [Act.put, List.setIfInBounds_toArray, List.set_cons_zero, List.set_cons_succ])
                      refine UpT.wpUp_end ?_
                      intro wq3 hb6 hf
                      clear hf
                      simp only [List.drop_succ_cons, List.drop_zero]
                      go_wp2
                      go_roundw
                      case rel => exact ⟨_, j + 1, rfl, by go_num, by omega, hKq2.stays hb6, hPq2.stays hb6⟩
                      case measure => simp [intOf]; omega
                  · have hq7 : decide ((j : Int) < (LI : Int)) = false := by simp; omega
                    go_wp2
                    go_roundw
                    case rel => exact ⟨i + 1, D.1.1, D.1.2, psI, by go_num, by omega, by omega, hPq, hKq, HSI⟩
                    case measure => simp [intOf]; omega
            · have hkk1 : (kd == 1) = false := by simp [hk1]
              have hkk2 : decide (kd = 1) = false := by simp [hk1]
              go_wp2_with (first
                | ((with_reducible show wpList _ _ _ (Oper.mk _ (Op.load 45 (.tmp 35)) _ _ _ _ :: _) _ _); refine wpList_load_cells (by rfl) (.tmp 35) 45 (by rfl) b (off + i * 40) 40 (by rfl) agg_actK size_actK av hcA hal40 ?_)
                | ((with_reducible show wpList _ _ _ (Oper.mk (some 9) (Op.alloc 45) _ _ _ _ :: _) _ _); refine wpList_alloc0 (by rfl) 45 (by rfl) (some 9) (by rfl) _ HALA.out ?_; intro wa hAa hba hsa
                   have hPa := hPr'.stays hba
                   have hKa := hKr'.new (N := fun j => rowOf (.slice pa L pc) j ∨ j = wr.heap.size) hba (fun j hj => hj.imp id (fun e => by rw [e]; exact ⟨Nat.le_refl _, by omega⟩))
                   have hnrA : ¬ rowOf (.slice pa L pc) wr.heap.size := fun hj => by have := (hPr'.lt hj).2; omega)
                | ((with_reducible show wpList _ _ _ (Oper.mk _ (Op.store 45 (.tmp 9) _) _ _ _ _ :: _) _ _); refine wpList_store_blk (by rfl) (.tmp 9) (.tmp 36) 45 (by rfl) _ 0 40 (by rfl) av (by rfl) size_actK hAa hal40 (by omega) halo _ (whole_store hzal) ?_
                   intro wb hAb hbutb hsb
                   have hKb := hKa.set hbutb (.inr rfl) hKr'.bel.size
                   have hPb := hPa.but hbutb hnrA
                   have HSB : Hid (wb.heap.size = wr.heap.size + 1) := by show _ = _; omega
                   have hc39 : wb.cell? ⟨wr.heap.size, 39, none⟩ = some (.slice X.ba nb X.bc) := (hAb.cell 39).trans HC.out.2.2.2.2
                   clear hsa hsb hAa hba hPa hKa hbutb)
                | ((with_reducible show wpList _ _ _ (Oper.mk _ (Op.load 42 (.tmp 41)) _ _ _ _ :: _) _ _); refine wpList_load_blk (by rfl) (.tmp 41) 42 (by rfl) _ 4 35 (by rfl) agg_ptr size_ptr hAb xv HXP.out hxvl ?_)
                | ((with_reducible show wpList _ _ _ (Oper.mk (some 10) (Op.alloc 42) _ _ _ _ :: _) _ _); refine wpList_alloc0 (by rfl) 42 (by rfl) (some 10) (by rfl) _ HALP.out ?_; intro wc hQc hbc hsc
                   have hAc := hAb.stays hbc
                   have hPc := hPb.stays hbc
                   have hKc := hKb.new (N := fun j => (rowOf (.slice pa L pc) j ∨ j = wr.heap.size) ∨ j = wb.heap.size) hbc (fun j hj => hj.imp id (fun e => by rw [e]; exact ⟨Nat.le_refl _, by omega⟩))
                   have hnrQ : ¬ rowOf (.slice pa L pc) wb.heap.size := fun hj => by have := (hPb.lt hj).2; omega)
                | ((with_reducible show wpList _ _ _ (Oper.mk _ (Op.store 42 (.tmp 10) (.tmp 42)) _ _ _ _ :: _) _ _); refine wpList_store_blk (by rfl) (.tmp 10) (.tmp 42) 42 (by rfl) _ 0 35 (by rfl) xv (by rfl) size_ptr hQc hxvl (by omega) hxvo _ (whole_store hzpl) ?_
                   intro wd hQd hbutd hsd
                   have hAd := hAc.but hbutd (by have := HSB.out; omega)
                   have hPd := hPc.but hbutd hnrQ
                   have hKd := hKc.set hbutd (.inr rfl) (by have := hKb.bel.size; omega)
                   have hc2 : wd.cell? ⟨wr.heap.size, 2, none⟩ = some (.int .i64 wh) := (hAd.cell 2).trans HC.out.2.2.1
                   clear hAc hPc hKc hbutd hQc hbc hsc hsd hc39
                   have hAe := hAd
                   have hPe := hPd
                   have hKe := hKd
                   have hQe := hQd
                   rw [HXQ.out] at hQe
                   have hdo := do_run hKe HV1.out HSL.out X HXO.out HXL.out Q HQOK.out
                   rw [← HD.out, ← HAV.out, ← HQV.out, ← HTV.out] at hdo)
                | ((with_reducible show wpList _ _ _ (Oper.mk _ (Op.load 45 (.tmp 9)) _ _ _ _ :: _) _ _); refine wpList_load_blk (by rfl) (.tmp 9) 45 (by rfl) _ 0 40 (by rfl) agg_actK size_actK hAe _ (whole_load hal40) hal40 ?_)
                | ((with_reducible show wpList _ _ _ (Oper.mk _ (Op.load 42 (.tmp 10)) _ _ _ _ :: _) _ _); refine wpList_load_blk (by rfl) (.tmp 10) 42 (by rfl) _ 0 35 (by rfl) agg_ptr size_ptr hQe _ (whole_load hqvl) hqvl ?_)
                | (go_at_call 7; go_must (refine hdo.mono ?_); rintro e wf ⟨rfl, hKf, hyf⟩
                   have hAf := hyf.blk hAe (.inl (.inr rfl))
                   have hPf := hPe.stay hyf (fun j hj => .inl (.inl hj))
                   have hKf' := hKf.less (N := rowOf (.slice pa L pc)) (fun j hj => .inl (.inl hj))
                   have hnrT : ¬ rowOf (.slice pa L pc) wf.heap.size := fun hj => by have := (hPf.lt hj).2; omega
                   have hltA := hAf.lt
                   dsimp only []
                   apply_assumption
                   refine wpList_alloc0 (by rfl) 49 (by rfl) (some 11) (by rfl) _ HALT.out ?_
                   intro wg hTg hbg hsg
                   have hAg := hAf.stays hbg
                   have hPg := hPf.stays hbg
                   have hKg := hKf'.new (N := fun j => rowOf (.slice pa L pc) j ∨ j = wf.heap.size) hbg (fun j hj => hj.imp id (fun e => by rw [e]; exact ⟨Nat.le_refl _, by omega⟩))
                   refine wpList_store_blk (by rfl) (.tmp 11) (.tmp 62) 49 (by rfl) _ 0 40 (by rfl) tv (by rfl) size_told hTg htvl (by omega) htvo _ (whole_store hztl) ?_
                   intro wh' hTh hbuth hsh
                   have hAh := hAg.but hbuth (by omega)
                   have hPh' := hPg.but hbuth hnrT
                   have hKh := (hKg.set hbuth (.inr rfl) hKf.bel.size).less (N := rowOf (.slice pa L pc)) (fun j hj => .inl hj)
                   have hc0 : wh'.cell? ⟨wr.heap.size, 0, none⟩ = some (.int .i64 kd) := (hAh.cell 0).trans HC.out.1
                   have hce : wh'.cell? ⟨wf.heap.size, 39, none⟩ = some (.int .i64 ev) := (hTh.cell 39).trans HTE.out
                   clear hKf hyf hAf hPf hKf' hltA hAg hPg hKg hbg hsg hTg hsh hbuth hAe hPe hKe hQe hdo hc2))
              obtain ⟨vI, hvI⟩ : ∃ vI, vI = Value.slice pa L pc := ⟨_, rfl⟩
              rw [← hvI] at hPh' hKh ⊢
              clear hvI
              obtain ⟨ia, ic, rfl⟩ := hPh'.form
              obtain ⟨LI, hLI⟩ : ∃ LI, LI = (ps).length := ⟨_, rfl⟩
              have HLI : Hid (LI = (ps).length) := hLI
              have hPI : Plist w1.heap.size wh' (.slice ia LI ic) (ps) := by rw [hLI]; exact hPh'
              have hKI : BS w1 wh' (rowOf (.slice ia LI ic)) k p g D.1.1 D.1.2 7 := by rw [hLI]; exact hKh
              obtain ⟨psI, hpsI⟩ : ∃ psI, psI = ps := ⟨_, rfl⟩
              rw [← hpsI] at hPI HLI
              rw [← hLI]
              have HSI : Hid (D.1.1.ws.length ≤ 8 * (i + 1) ∧ psI.length ≤ (i + 1) + 1) := by show _ ∧ _; rw [hpsI]; have := HS.out; have := HDL.out; exact ⟨by omega, by omega⟩
              clear hLI hpsI hPh' hKh
              have hLI31 : LI ≤ 31 := by have h1 := HSI.out.2; have h2 := HLI.out; omega
              go_wp2
              go_loopw [12] (fun x wq => ∃ (q : World) (j : Nat), q = wq ∧ x = .int .i64 j ∧ j ≤ LI ∧ BS w1 wq (rowOf (.slice ia LI ic)) k p g D.1.1 D.1.2 7 ∧ Plist w1.heap.size wq (.slice ia LI ic) psI) (fun x _ => LI - (intOf x).toNat)
              case atStart => exact ⟨_, 0, rfl, rfl, by omega, hKI, hPI⟩
              case round =>
                clear hKI hPI
                have hrelI := hrel
                clear hrel
                obtain ⟨wq, j, rfl, rfl, hjL, hKq, hPq⟩ := hrelI
                by_cases hltI : j < LI
                · have hq7 : decide ((j : Int) < (LI : Int)) = true := by simp; omega
                  have hjp : j < psI.length := by rw [← HLI.out]; exact hltI
                  obtain ⟨bq, cb, hve, hrb, hcellI, hpok⟩ := hPq.at (i := j) hjp
                  have hcv : ia = some ⟨bq, 0, none⟩ := by simp only [Value.slice.injEq] at hve; exact hve.1
                  subst hcv
                  have hixI : ∀ u : World, (Instr.indexAt 38 (.slice (some ⟨bq, 0, none⟩) LI ic) (.int .i64 (j : Int))).run Tryd.prog u = .ok (.pointer (some ⟨bq, j * 35, none⟩)) u := fun u => index_ptrs bq LI ic j hltI u
                  obtain ⟨P, hPe⟩ : ∃ P, P = psI.getD j default := ⟨_, rfl⟩
                  rw [← hPe] at hcellI hpok
                  have HPOK : Hid P.ok := hpok
                  have hvl : P.vs.length = 35 := Pt.vs_len hpok
                  obtain ⟨nS, hok⟩ := hKq.ok
                  have hnev := read_never hok P
                  have hrlen := readK_len hok P
                  have HSLI : Hid (D.1.1.ws.length ≤ 800000) := by show _ ≤ _; have := HSI.out; omega
                  have hrd := bs_read hKq HV1.out HSLI.out P hpok
                  have hPh := Pt.at_h hpok
                  obtain ⟨hs, hhs⟩ : ∃ hs, hs = P.h.map (Value.int .u8) := ⟨_, rfl⟩
                  have HHS : Hid (hs = P.h.map (Value.int .u8)) := hhs
                  have hhl : hs.length = 32 := by rw [hhs, List.length_map, hpok.len]
                  rw [← hhs] at hPh
                  obtain ⟨vs, hvs⟩ : ∃ vs, vs = P.vs := ⟨_, rfl⟩
                  have HVS : Hid (vs = P.vs) := hvs
                  rw [← hvs] at hcellI hvl hrd hPh
                  obtain ⟨RB, hRB⟩ : ∃ RB, RB = (readK D.1.1 P).1 := ⟨_, rfl⟩
                  obtain ⟨ER, hER⟩ : ∃ ER, ER = (readK D.1.1 P).2 := ⟨_, rfl⟩
                  rw [← hRB, ← hER] at hrd hnev hrlen
                  have HNEV : Hid (ER = 0 → RB.length = 256 ∧ (shaOf RB = P.h ∨ P = Pt.zero)) := hnev
                  have HPJ : Hid (psI.getD j default = P) := hPe.symm
                  clear hRB hER hvs hhs hPe hve hok hjp hnev
                  by_cases he0 : ER = 0
                  · subst he0
                    have hl256 : RB.length = 256 := (HNEV.out rfl).1
                    have HNV : Hid (shaOf RB = P.h ∨ P = Pt.zero) := (HNEV.out rfl).2
                    clear HNEV
                    rw [hl256] at hrd
                    clear hrlen
                    go_wp2_with (first
                      | ((with_reducible show wpList _ _ _ (Oper.mk _ (Op.load 42 (.tmp 86)) _ _ _ _ :: _) _ _); refine wpList_load_cells (by rfl) (.tmp 86) 42 (by rfl) bq (j * 35) 35 (by rfl) agg_ptr size_ptr vs hcellI hvl ?_)
                      | (go_at_call 17; go_must (refine hrd.mono ?_); rintro e wq2 ⟨a5, c5, rfl, hN5, hb5⟩))
                    have hKq2 := hKq.stays hb5
                    have hPq2 := hPq.stays hb5
                    have hsum2 : ∀ u, Below wq2.heap.size wq2 u → Calls Tryd.prog 18 #[.slice a5 256 c5] u fun e w' => e = .returned (.agg ((shaOf RB).map (Value.int .u8)).toArray) ∧ Below u.heap.size u w' := fun u hu => by
                      have := sum_run a5 c5 _ u (hN5.1.stays hu) ((hKq2.stays hu).vars HV1.out) (by rw [hl256]; omega)
                      rw [hl256] at this
                      exact this
                    have hcq2 : ∀ u, Below wq2.heap.size wq2 u → ∀ m, m < 35 → u.cell? ⟨bq, j * 35 + m, none⟩ = vs[m]? := fun u hu m hm => by rw [HVS.out]; exact ((hPq2.stays hu).cells (i := j) (by rw [← HLI.out]; exact hltI) m hm).trans (by rw [HPJ.out])
                    have hldh : ∀ u, Below wq2.heap.size wq2 u → (Instr.loadAt 39 (.pointer (some ⟨bq, j * 35, none⟩))).run Tryd.prog u = .ok (.agg hs.toArray) u := fun u hu => run_load_cells agg_hsh size_hash (fun m hm => (hcq2 u hu m (by omega)).trans (hPh m hm)) hhl
                    have hldp : ∀ u, Below wq2.heap.size wq2 u → (Instr.loadAt 42 (.pointer (some ⟨bq, j * 35, none⟩))).run Tryd.prog u = .ok (.agg vs.toArray) u := fun u hu => run_load_cells agg_ptr size_ptr (hcq2 u hu) hvl
                    have heq := fun u => sum_equal P HPOK.out (shaOf RB) (shaOf_length _) u
                    rw [← HHS.out] at heq
                    obtain ⟨ss, hss⟩ : ∃ ss, ss = (shaOf RB).map (Value.int .u8) := ⟨_, rfl⟩
                    rw [← hss] at heq hsum2
                    by_cases hsame : (shaOf RB == P.h) = true
                    · rw [hsame] at heq
                      have HEQ : Hid (∀ u, (Op.equalIn 10000 39 (.agg ss.toArray) (.agg hs.toArray)).run Tryd.prog u = .ok true u) := heq
                      clear heq hss hcellI hrd hcq2 hPh hKq hPq hb5 hN5
                      refine UpT.wp_region_tail 24 (UpT.tell [(8, isV (.agg ss.toArray))]) (fun _ => false) (by kernel_rfl) (by kernel_rfl) (UpT.tell_steady _ (by
                        intro p hp
                        simp only [List.mem_cons, List.not_mem_nil, or_false] at hp
                        rcases hp with rfl <;> first | exact isV_steady _ | exact slB_steady _ _)) ?_
                      simp only [List.take_succ_cons, List.take_zero]
                      iterate 3 (apply UpT.wpUp_pure; (case hw => rfl); (case hψ => rfl); (case hv => (intro wz hp; clear hp; go_simp; try (with_reducible rfl))); simp only [Act.put, List.setIfInBounds_toArray, List.set_cons_zero, List.set_cons_succ])
                      iterate 5 (apply UpT.wpUp_pure; (case hw => rfl); (case hψ => rfl); (case hv => (intro wz hp; clear hp; go_simp; try (with_reducible rfl))); simp only [Act.put, List.setIfInBounds_toArray, List.set_cons_zero, List.set_cons_succ])
                      refine UpT.wpUp_call _ 18 #[.slice a5 256 c5] (by rfl) (by rfl) (by rfl) (fun wz => by go_simp) (fun wz hp => calls_isV (hsum2 wz hp.1)) ?_
                      rintro v ⟨u, _, hf⟩
                      obtain rfl := hf.of 8 v _ rfl rfl
                      clear hf
                      simp only [Act.put, List.setIfInBounds_toArray, List.set_cons_zero, List.set_cons_succ]
                      iterate 4 (apply UpT.wpUp_pure; (case hw => rfl); (case hψ => rfl); (case hv => (intro wz hp; clear hp; go_simp; try (with_reducible rfl))); simp only [Act.put, List.setIfInBounds_toArray, List.set_cons_zero, List.set_cons_succ])
                      refine UpT.wpUp_pure (.agg hs.toArray) (by rfl) (by rfl) (fun wz hp => exec_load (by rfl) (by rfl) (hldh wz hp.1)) ?_
                      simp only [Act.put, List.setIfInBounds_toArray, List.set_cons_zero, List.set_cons_succ]
                      have heq := HEQ.out
                      iterate 2 (apply UpT.wpUp_pure; (case hw => rfl); (case hψ => rfl); (case hv => (intro wz hp; clear hp; go_simp; try (with_reducible rfl))); simp only [Act.put, List.setIfInBounds_toArray, List.set_cons_zero, List.set_cons_succ])
                      iterate 6 (refine UpT.wpUp_pass (by rfl) ?_; simp only [Act.put, List.setIfInBounds_toArray, List.set_cons_zero, List.set_cons_succ])
                      iterate 2 (apply UpT.wpUp_pure; (case hw => rfl); (case hψ => rfl); (case hv => (intro wz hp; clear hp; go_simp; try (with_reducible rfl))); simp only [Act.put, List.setIfInBounds_toArray, List.set_cons_zero, List.set_cons_succ])
                      refine UpT.wpUp_end ?_
                      intro wq3 hb6 hf
                      clear hf
                      simp only [List.drop_succ_cons, List.drop_zero]
                      go_wp2
                      go_roundw
                      case rel => exact ⟨_, j + 1, rfl, by go_num, by omega, hKq2.stays hb6, hPq2.stays hb6⟩
                      case measure => simp [intOf]; omega
                    · have hsame' : (shaOf RB == P.h) = false := by simpa using hsame
                      rw [hsame'] at heq
                      have HEQ : Hid (∀ u, (Op.equalIn 10000 39 (.agg ss.toArray) (.agg hs.toArray)).run Tryd.prog u = .ok false u) := heq
                      have hz : P = Pt.zero := by
                        rcases HNV.out with h1 | h1
                        · exact absurd (by simpa using h1) hsame
                        · exact h1
                      have HPEQ : Hid (∀ u, (Op.equalIn 10000 42 (.agg vs.toArray) (.agg zp.toArray)).run Tryd.prog u = .ok true u) := by
                        show ∀ u, _
                        intro u
                        rw [HVS.out, HZP.out, ptr_zero_equal P HPOK.out u, hz]
                        rfl
                      clear heq hss hcellI hrd hcq2 hPh hKq hPq hb5 hN5 hz hsame hsame'
                      refine UpT.wp_region_tail 24 (UpT.tell [(8, isV (.agg ss.toArray))]) (fun _ => false) (by kernel_rfl) (by kernel_rfl) (UpT.tell_steady _ (by
                        intro p hp
                        simp only [List.mem_cons, List.not_mem_nil, or_false] at hp
                        rcases hp with rfl <;> first | exact isV_steady _ | exact slB_steady _ _)) ?_
                      simp only [List.take_succ_cons, List.take_zero]
                      iterate 3 (apply UpT.wpUp_pure; (case hw => rfl); (case hψ => rfl); (case hv => (intro wz hp; clear hp; go_simp; try (with_reducible rfl))); simp only [Act.put, List.setIfInBounds_toArray, List.set_cons_zero, List.set_cons_succ])
                      iterate 5 (apply UpT.wpUp_pure; (case hw => rfl); (case hψ => rfl); (case hv => (intro wz hp; clear hp; go_simp; try (with_reducible rfl))); simp only [Act.put, List.setIfInBounds_toArray, List.set_cons_zero, List.set_cons_succ])
                      refine UpT.wpUp_call _ 18 #[.slice a5 256 c5] (by rfl) (by rfl) (by rfl) (fun wz => by go_simp) (fun wz hp => calls_isV (hsum2 wz hp.1)) ?_
                      rintro v ⟨u, _, hf⟩
                      obtain rfl := hf.of 8 v _ rfl rfl
                      clear hf
                      simp only [Act.put, List.setIfInBounds_toArray, List.set_cons_zero, List.set_cons_succ]
                      iterate 4 (apply UpT.wpUp_pure; (case hw => rfl); (case hψ => rfl); (case hv => (intro wz hp; clear hp; go_simp; try (with_reducible rfl))); simp only [Act.put, List.setIfInBounds_toArray, List.set_cons_zero, List.set_cons_succ])
                      refine UpT.wpUp_pure (.agg hs.toArray) (by rfl) (by rfl) (fun wz hp => exec_load (by rfl) (by rfl) (hldh wz hp.1)) ?_
                      simp only [Act.put, List.setIfInBounds_toArray, List.set_cons_zero, List.set_cons_succ]
                      have heq := HEQ.out
                      iterate 2 (apply UpT.wpUp_pure; (case hw => rfl); (case hψ => rfl); (case hv => (intro wz hp; clear hp; go_simp; try (with_reducible rfl))); simp only [Act.put, List.setIfInBounds_toArray, List.set_cons_zero, List.set_cons_succ])
                      iterate 3 (apply UpT.wpUp_pure; (case hw => rfl); (case hψ => rfl); (case hv => (intro wz hp; clear hp; go_simp; try (with_reducible rfl))); simp only [Act.put, List.setIfInBounds_toArray, List.set_cons_zero, List.set_cons_succ])
                      refine UpT.wpUp_pure (.agg vs.toArray) (by rfl) (by rfl) (fun wz hp => exec_load (by rfl) (by rfl) (hldp wz hp.1)) ?_
                      simp only [Act.put, List.setIfInBounds_toArray, List.set_cons_zero, List.set_cons_succ]
                      refine UpT.wpUp_pure (.agg zp.toArray) (by rfl) (by rfl) (fun wz hp => exec_build0 (by rfl) (HBUP.out wz)) ?_
                      simp only [Act.put, List.setIfInBounds_toArray, List.set_cons_zero, List.set_cons_succ]
                      have hpeq := HPEQ.out
                      iterate 3 (apply UpT.wpUp_pure; (case hw => rfl); (case hψ => rfl); (case hv => (intro wz hp; clear hp; go_simp; try (with_reducible rfl))); simp only [Act.put, List.setIfInBounds_toArray, List.set_cons_zero, List.set_cons_succ])
                      refine UpT.wpUp_end ?_
                      intro wq3 hb6 hf
                      clear hf
                      simp only [List.drop_succ_cons, List.drop_zero]
                      go_wp2
                      go_roundw
                      case rel => exact ⟨_, j + 1, rfl, by go_num, by omega, hKq2.stays hb6, hPq2.stays hb6⟩
                      case measure => simp [intOf]; omega
                  · have heb : (ER == 0) = false := by simp [he0]
                    have heb2 : decide (ER = 0) = false := by simp [he0]
                    rcases hrlen with hrl | hrl
                    · exact absurd hrl.1 he0
                    rw [hrl.2] at hrd
                    simp only [List.length_nil] at hrd
                    go_wp2_with (first
                      | ((with_reducible show wpList _ _ _ (Oper.mk _ (Op.load 42 (.tmp 86)) _ _ _ _ :: _) _ _); refine wpList_load_cells (by rfl) (.tmp 86) 42 (by rfl) bq (j * 35) 35 (by rfl) agg_ptr size_ptr vs hcellI hvl ?_)
                      | (go_at_call 17; go_must (refine hrd.mono ?_); rintro e wq2 ⟨a5, c5, rfl, hN5, hb5⟩))
                    have hKq2 := hKq.stays hb5
                    have hPq2 := hPq.stays hb5
                    obtain ⟨ss, hss⟩ : ∃ ss : List Value, ss = [] := ⟨_, rfl⟩
                    clear hss hcellI hrd hPh hKq hPq hb5 hN5
                    refine UpT.wp_region_tail 24 (UpT.tell [(8, isV (.agg ss.toArray))]) (fun _ => false) (by kernel_rfl) (by kernel_rfl) (UpT.tell_steady _ (by
                      intro p hp
                      simp only [List.mem_cons, List.not_mem_nil, or_false] at hp
                      rcases hp with rfl <;> first | exact isV_steady _ | exact slB_steady _ _)) ?_
                    simp only [List.take_succ_cons, List.take_zero]
                    iterate 3 (apply UpT.wpUp_pure; (case hw => rfl); (case hψ => rfl); (case hv => (intro wz hp; clear hp; go_simp; try (with_reducible rfl))); simp only [Act.put, List.setIfInBounds_toArray, List.set_cons_zero, List.set_cons_succ])
                    iterate 21 (refine UpT.wpUp_pass (by rfl) ?_; simp only [Act.put, List.setIfInBounds_toArray, List.set_cons_zero, List.set_cons_succ])
                    refine UpT.wpUp_end ?_
                    intro wq3 hb6 hf
                    clear hf
                    simp only [List.drop_succ_cons, List.drop_zero]
                    go_wp2
                    go_roundw
                    case rel => exact ⟨_, j + 1, rfl, by go_num, by omega, hKq2.stays hb6, hPq2.stays hb6⟩
                    case measure => simp [intOf]; omega
                · have hq7 : decide ((j : Int) < (LI : Int)) = false := by simp; omega
                  go_wp2
                  go_roundw
                  case rel => exact ⟨i + 1, D.1.1, D.1.2, psI, by go_num, by omega, by omega, hPq, hKq, HSI⟩
                  case measure => simp [intOf]; omega
    · have HEND : Hid (¬ (i < n ∧ i < 30)) := hlt
      clear hlt
      by_cases hlt : i < n
      · have hq1 : decide ((i : Int) < (n : Int)) = true := by simp; omega
        have hq2 : decide ((i : Int) < 30) = false := by have := HEND.out; simp; omega
        go_wp2_with (first
          | (go_at_call 16; go_must (refine (hal _ (hKr.vars HV1.out)).mono ?_); rintro e w9 ⟨rfl, hb9⟩))
        go_ret
        exact ⟨rfl, below_then HW1.out (below_then hKr.bel hb9)⟩
      · have hq1 : decide ((i : Int) < (n : Int)) = false := by simp; omega
        go_wp2_with (first
          | (go_at_call 16; go_must (refine (hal _ (hKr.vars HV1.out)).mono ?_); rintro e w9 ⟨rfl, hb9⟩))
        go_ret
        exact ⟨rfl, below_then HW1.out (below_then hKr.bel hb9)⟩

end Go.Proofs.YtjfoidilecognaaDoor
