/-
 The laws' function do.
-/
import Derived.Test.YthbldjnpnligpaaDoorB42
namespace Go.Proofs.YthbldjnpnligpaaDoor
set_option linter.unusedSimpArgs false
set_option linter.unusedVariables false
set_option maxRecDepth 100000
open Go.RowKit
section
variable {w0 w : World} {M : Nat → Prop} {k p g : Nat} {S : DS} {l : List Bool}
set_option maxHeartbeats 20000000 in
theorem do_heal (h : BS w0 w M k p g S l 7) (hV : Vars w0) (hln : S.ws.length ≤ 700000) (x : ActK) (hx : ActKOk w0 x) (hxl : x.bs.length ≤ 300) (q : Pt) (hq : q.ok) (hk : x.kind = 4) :
 Calls Tryd.prog 12 #[.pointer (some ⟨k, 0, none⟩), .pointer (some ⟨p, 0, none⟩), .agg x.cells.toArray, .agg q.vs.toArray] w fun e w' => e = .returned (.agg ({ Told.zero with n := (healK S q).1.2, e := (healK S q).2 } : Told).vs.toArray) ∧ BS w0 w' M k p g (healK S q).1.1 l 7 ∧ Stay M w w' := by
 have HX : Hid (x.cells[0]? = some (.int .i64 4) ∧ x.cells[1]? = some (.int .i64 x.copies) ∧ x.cells[3]? = some (.int .i64 x.at') ∧ x.cells[39]? = some (.slice x.ba x.bs.length x.bc)) := ⟨by rw [← hk]; exact (ActK.cells_at hx.p).1, (ActK.cells_at hx.p).2.1, (ActK.cells_at hx.p).2.2.2.1, (ActK.cells_at hx.p).2.2.2.2⟩
 have HAL : Hid (∀ w : World, (Instr.alloc 49 true (.tuple #[])).run Tryd.prog w = .ok (.pointer (some ⟨w.heap.size, 0, none⟩)) (w.alloc (.cells Told.zero.vs.toArray 49))) := alloc_told
 have HBU : Hid (∀ w : World, (Instr.build 49 #[]).run Tryd.prog w = .ok (.agg Told.zero.vs.toArray) w) := build_told
 have hzl : Told.zero.vs.length = 40 := Told.vs_len Pt.zero_ok
 have hzo : ∀ v ∈ Told.zero.vs, v.oneCell' = true := Told.vs_one _
 have hvl : q.vs.length = 35 := Pt.vs_len hq
 have hal : x.cells.length = 40 := ActK.cells_len hx.p
 obtain ⟨tz, htz⟩ : ∃ tz, tz = Told.zero.vs := ⟨_, rfl⟩
 have HTZ : Hid (tz = Told.zero.vs) := htz
 obtain ⟨av, hav⟩ : ∃ av, av = x.cells := ⟨_, rfl⟩
 have HAV : Hid (av = x.cells) := hav
 obtain ⟨vs, hvs⟩ : ∃ vs, vs = q.vs := ⟨_, rfl⟩
 have HVS : Hid (vs = q.vs) := hvs
 rw [← htz] at HAL HBU hzl hzo
 rw [← hav] at HX hal ⊢
 rw [← hvs] at hvl ⊢
 have hhl : ∀ u, BS w0 u (fun j => M j ∨ (w.heap.size ≤ j ∧ j < u.heap.size)) k p g S l 7 → True := fun _ _ => trivial
 clear hhl
 have hhl : ∀ u {N}, BS w0 u N k p g S l 7 → Calls Tryd.prog 54 #[.pointer (some ⟨k, 0, none⟩), .agg vs.toArray] u fun e w' => e = .returned (.tuple #[.int .i64 ((healK S q).1.2 : Int), .int .i64 (healK S q).2]) ∧ BS w0 w' N k p g (healK S q).1.1 l 7 ∧ Stay N u w' := fun u N hu => by rw [HVS.out]; exact bs_heal hu hV (by omega) q hq
 obtain ⟨nn, hnn⟩ : ∃ nn, nn = (healK S q).1.2 := ⟨_, rfl⟩
 obtain ⟨ee, hee⟩ : ∃ ee, ee = (healK S q).2 := ⟨_, rfl⟩
 obtain ⟨SS, hSS⟩ : ∃ SS, SS = (healK S q).1.1 := ⟨_, rfl⟩
 rw [← hnn, ← hee, ← hSS] at hhl ⊢
 clear hnn hee hSS
 clear htz hav hvs hk
 go_enter Tryd.func12, Tryd.ntmps12
 go_wp2_with (first
  | ((with_reducible show wpList _ _ _ (Oper.mk _ (Op.box 45 _) _ _ _ _ :: _) _ _); refine wpList_box0 (by rfl) 45 (.tmp 2) (by rfl) av (by rfl) ?_; intro w1 hA1 hb1 hs1; clear hs1)
  | ((with_reducible show wpList _ _ _ (Oper.mk _ (Op.box 42 _) _ _ _ _ :: _) _ _); refine wpList_box0 (by rfl) 42 (.tmp 3) (by rfl) vs (by rfl) ?_; intro w2 hQ2 hb2 hs2; clear hs2)
  | ((with_reducible show wpList _ _ _ (Oper.mk (some 8) (Op.alloc 49) _ _ _ _ :: _) _ _); refine wpList_alloc0 (by rfl) 49 (by rfl) (some 8) (by rfl) _ HAL.out ?_; intro w3 hR3 hb3 hs3; clear hs3)
  | ((with_reducible show wpList _ _ _ (Oper.mk _ (Op.build 49 _) _ _ _ _ :: _) _ _); refine wpList_build0 (by rfl) 49 (by rfl) _ HBU.out ?_)
  | ((with_reducible show wpList _ _ _ (Oper.mk (some 9) (Op.alloc 49) _ _ _ _ :: _) _ _); refine wpList_alloc0 (by rfl) 49 (by rfl) (some 9) (by rfl) _ HAL.out ?_; intro w4 hT4 hb4 hs4
     clear hs4
     have hb14 := below_then (below_then (below_then hb1 hb2) hb3) hb4
     have hA4 := ((hA1.stays hb2).stays hb3).stays hb4
     have hQ4 := (hQ2.stays hb3).stays hb4
     have hR4 := hR3.stays hb4
     have hlt1 := hA1.lt
     have hlt2 := hQ2.lt
     have hlt3 := hR3.lt
     have hlt4 := hT4.lt
     have hz1 := hb1.size
     have hz2 := hb2.size
     have hz3 := hb3.size
     have hz4 := hb4.size
     have HZ : Hid (w.heap.size < w1.heap.size ∧ w1.heap.size < w2.heap.size ∧ w2.heap.size < w3.heap.size ∧ w3.heap.size < w4.heap.size) := by
      show _ ∧ _ ∧ _ ∧ _
      have e1 := hA1.lt
      have e2 := hQ2.lt
      have e3 := hR3.lt
      have e4 := hT4.lt
      omega
     have hK4 := h.new (N := fun j => M j ∨ (w.heap.size ≤ j ∧ j < w4.heap.size)) hb14 (fun j hj => hj)
     clear hlt1 hlt2 hlt3 hlt4 hz1 hz2 hz3 hz4 hA1 hb1 hQ2 hb2 hR3 hb3 hb4)
  | ((with_reducible show wpList _ _ _ (Oper.mk _ (Op.store 49 (.tmp 9) _) _ _ _ _ :: _) _ _); refine wpList_store_blk (by rfl) (.tmp 9) (.tmp 20) 49 (by rfl) _ 0 40 (by rfl) tz (by rfl) size_told hT4 hzl (by omega) hzo _ (whole_store hzl) ?_
     intro w5 hT5 hbut5 hs5
     have hA5 := hA4.but hbut5 (by have := HZ.out; omega)
     have hQ5 := hQ4.but hbut5 (by have := HZ.out; omega)
     have hR5 := hR4.but hbut5 (by have := HZ.out; omega)
     have hK5 := hK4.set hbut5 (.inr (by have := HZ.out; omega)) (by have := h.bel.size; have := HZ.out; omega)
     have hy5 : Stay M w w5 := (Stay.of_below hb14).new hbut5 (by have := HZ.out; omega)
     rw [HTZ.out] at hT5
     have hc0 : w5.cell? ⟨w.heap.size, 0, none⟩ = some (.int .i64 4) := (hA5.cell 0).trans HX.out.1
     clear hs5 hK4 hA4 hQ4 hR4 hb14 hbut5 hT4)
  | ((with_reducible show wpList _ _ _ (Oper.mk _ (Op.load 42 (.tmp 7)) _ _ _ _ :: _) _ _); refine wpList_load_blk (by rfl) (.tmp 7) 42 (by rfl) _ 0 35 (by rfl) agg_ptr size_ptr hQ5 _ (whole_load hvl) hvl ?_)
  | (go_at_call 54; go_must (refine (hhl _ hK5).mono ?_); rintro e w6 ⟨rfl, hK6, hy6⟩
     have hT6 := hy6.blk hT5 (.inr (by have := HZ.out; omega))
     have hR6 := hy6.blk hR5 (.inr (by have := HZ.out; omega))
     have hy6' : Stay M w w6 := hy5.trans (hy6.less (fun j hj => .inl hj)))
  | ((with_reducible show wpList _ _ _ (Oper.mk _ (Op.store 3 (.tmp 72) _) _ _ _ _ :: _) _ _); refine wpList_store_one (by rfl) (.tmp 72) (.tmp 71) 3 (by rfl) _ 38 (by rfl) (.int .i64 (nn : Int)) (by rfl) rfl rfl size_int1 hT6 (by rw [Told.vs_len Pt.zero_ok]; omega) ?_
     intro w7 hT7 hbut7 hs7
     clear hs7
     rw [← Told.put_n Pt.zero_ok nn] at hT7
     have hR7 := hR6.but hbut7 (by have := HZ.out; omega)
     have hK7 := hK6.set hbut7 (.inr (by have := HZ.out; omega)) (by have := h.bel.size; have := HZ.out; omega)
     have hy7' := hy6'.new hbut7 (by have := HZ.out; omega))
  | ((with_reducible show wpList _ _ _ (Oper.mk _ (Op.store 47 (.tmp 74) _) _ _ _ _ :: _) _ _); refine wpList_store_one (by rfl) (.tmp 74) (.tmp 73) 47 (by rfl) _ 39 (by rfl) (.int .i64 ee) (by rfl) rfl rfl size_err1 hT7 (by rw [Told.vs_len (t := { Told.zero with n := nn }) Pt.zero_ok]; omega) ?_
     intro w8 hT8 hbut8 hs8
     clear hs8
     rw [← Told.put_e (t := { Told.zero with n := nn }) Pt.zero_ok ee] at hT8
     have hR8 := hR7.but hbut8 (by have := HZ.out; omega)
     have hK8 := hK7.set hbut8 (.inr (by have := HZ.out; omega)) (by have := h.bel.size; have := HZ.out; omega)
     have hy8' := hy7'.new hbut8 (by have := HZ.out; omega)
     obtain ⟨tf, htf⟩ : ∃ tf, tf = ({ Told.zero with n := nn, e := ee } : Told).vs := ⟨_, rfl⟩
     have HTF : Hid (tf = _) := htf
     have hTFl : tf.length = 40 := by rw [htf]; exact Told.vs_len Pt.zero_ok
     have hTFo : ∀ v ∈ tf, v.oneCell' = true := by rw [htf]; exact Told.vs_one _
     have hTF := hT8
     rw [← htf] at hTF
     have hRF := hR8
     have hKF := hK8
     have hyF := hy8'
     clear htf)
  | ((with_reducible show wpList _ _ _ (Oper.mk _ (Op.load 49 _) _ _ _ _ :: _) _ _); refine wpList_load_blk (by rfl) (.tmp 9) 49 (by rfl) _ 0 40 (by rfl) agg_told size_told hTF _ (whole_load hTFl) hTFl ?_)
  | ((with_reducible show wpList _ _ _ (Oper.mk _ (Op.store 49 (.tmp 8) _) _ _ _ _ :: _) _ _); refine wpList_store_blk (by rfl) (.tmp 8) (.tmp 113) 49 (by rfl) _ 0 40 (by rfl) tf (by rfl) size_told hRF hTFl (by omega) hTFo _ (whole_store hzl) ?_
     intro wZ hRZ hbutZ hsZ))
 refine bodyPost_ret_blk rfl rfl (by rfl) agg_told size_told hRZ hTFl ⟨by rw [HTF.out], (hKF.set hbutZ (.inr (by have := HZ.out; omega)) (by have := h.bel.size; have := HZ.out; omega)).less (fun j hj => .inl hj), hyF.new hbutZ (by have := HZ.out; omega)⟩
set_option maxHeartbeats 20000000 in
theorem do_read (h : BS w0 w M k p g S l 7) (hV : Vars w0) (hln : S.ws.length ≤ 700000) (x : ActK) (hx : ActKOk w0 x) (hxl : x.bs.length ≤ 300) (q : Pt) (hq : q.ok) (hk : x.kind = 2) :
 Calls Tryd.prog 12 #[.pointer (some ⟨k, 0, none⟩), .pointer (some ⟨p, 0, none⟩), .agg x.cells.toArray, .agg q.vs.toArray] w fun e w' => e = .returned (.agg ({ Told.zero with b := (readK S q).1, e := (readK S q).2 } : Told).vs.toArray) ∧ BS w0 w' M k p g S l 7 ∧ Stay M w w' := by
 have HX : Hid (x.cells[0]? = some (.int .i64 2) ∧ x.cells[1]? = some (.int .i64 x.copies) ∧ x.cells[3]? = some (.int .i64 x.at') ∧ x.cells[39]? = some (.slice x.ba x.bs.length x.bc)) := ⟨by rw [← hk]; exact (ActK.cells_at hx.p).1, (ActK.cells_at hx.p).2.1, (ActK.cells_at hx.p).2.2.2.1, (ActK.cells_at hx.p).2.2.2.2⟩
 have HAL : Hid (∀ w : World, (Instr.alloc 49 true (.tuple #[])).run Tryd.prog w = .ok (.pointer (some ⟨w.heap.size, 0, none⟩)) (w.alloc (.cells Told.zero.vs.toArray 49))) := alloc_told
 have HBU : Hid (∀ w : World, (Instr.build 49 #[]).run Tryd.prog w = .ok (.agg Told.zero.vs.toArray) w) := build_told
 have hzl : Told.zero.vs.length = 40 := Told.vs_len Pt.zero_ok
 have hzo : ∀ v ∈ Told.zero.vs, v.oneCell' = true := Told.vs_one _
 have hvl : q.vs.length = 35 := Pt.vs_len hq
 have hal : x.cells.length = 40 := ActK.cells_len hx.p
 obtain ⟨tz, htz⟩ : ∃ tz, tz = Told.zero.vs := ⟨_, rfl⟩
 have HTZ : Hid (tz = Told.zero.vs) := htz
 obtain ⟨av, hav⟩ : ∃ av, av = x.cells := ⟨_, rfl⟩
 have HAV : Hid (av = x.cells) := hav
 obtain ⟨vs, hvs⟩ : ∃ vs, vs = q.vs := ⟨_, rfl⟩
 have HVS : Hid (vs = q.vs) := hvs
 rw [← htz] at HAL HBU hzl hzo
 rw [← hav] at HX hal ⊢
 rw [← hvs] at hvl ⊢
 have hrd : ∀ u {N}, BS w0 u N k p g S l 7 → Calls Tryd.prog 52 #[.pointer (some ⟨k, 0, none⟩), .agg vs.toArray] u fun e w' => ∃ a c, e = .returned (.tuple #[.slice a (readK S q).1.length c, .int .i64 (readK S q).2]) ∧ NewB u.heap.size w' a c (readK S q).1 ∧ Below u.heap.size u w' := fun u N hu => by rw [HVS.out]; exact bs_read hu hV (by omega) q hq
 obtain ⟨rr, hrr⟩ : ∃ rr, rr = (readK S q).1 := ⟨_, rfl⟩
 obtain ⟨ee, hee⟩ : ∃ ee, ee = (readK S q).2 := ⟨_, rfl⟩
 rw [← hrr, ← hee] at hrd ⊢
 obtain ⟨rl, hrl⟩ : ∃ rl, rl = rr.length := ⟨_, rfl⟩
 have HRL : Hid (rl = rr.length) := hrl
 rw [← hrl] at hrd
 clear hrr hee hrl
 clear htz hav hvs hk
 go_enter Tryd.func12, Tryd.ntmps12
 go_wp2_with (first
  | ((with_reducible show wpList _ _ _ (Oper.mk _ (Op.box 45 _) _ _ _ _ :: _) _ _); refine wpList_box0 (by rfl) 45 (.tmp 2) (by rfl) av (by rfl) ?_; intro w1 hA1 hb1 hs1; clear hs1)
  | ((with_reducible show wpList _ _ _ (Oper.mk _ (Op.box 42 _) _ _ _ _ :: _) _ _); refine wpList_box0 (by rfl) 42 (.tmp 3) (by rfl) vs (by rfl) ?_; intro w2 hQ2 hb2 hs2; clear hs2)
  | ((with_reducible show wpList _ _ _ (Oper.mk (some 8) (Op.alloc 49) _ _ _ _ :: _) _ _); refine wpList_alloc0 (by rfl) 49 (by rfl) (some 8) (by rfl) _ HAL.out ?_; intro w3 hR3 hb3 hs3; clear hs3)
  | ((with_reducible show wpList _ _ _ (Oper.mk _ (Op.build 49 _) _ _ _ _ :: _) _ _); refine wpList_build0 (by rfl) 49 (by rfl) _ HBU.out ?_)
  | ((with_reducible show wpList _ _ _ (Oper.mk (some 9) (Op.alloc 49) _ _ _ _ :: _) _ _); refine wpList_alloc0 (by rfl) 49 (by rfl) (some 9) (by rfl) _ HAL.out ?_; intro w4 hT4 hb4 hs4
     clear hs4
     have hb14 := below_then (below_then (below_then hb1 hb2) hb3) hb4
     have hA4 := ((hA1.stays hb2).stays hb3).stays hb4
     have hQ4 := (hQ2.stays hb3).stays hb4
     have hR4 := hR3.stays hb4
     have hlt1 := hA1.lt
     have hlt2 := hQ2.lt
     have hlt3 := hR3.lt
     have hlt4 := hT4.lt
     have hz1 := hb1.size
     have hz2 := hb2.size
     have hz3 := hb3.size
     have hz4 := hb4.size
     have HZ : Hid (w.heap.size < w1.heap.size ∧ w1.heap.size < w2.heap.size ∧ w2.heap.size < w3.heap.size ∧ w3.heap.size < w4.heap.size) := by
      show _ ∧ _ ∧ _ ∧ _
      have e1 := hA1.lt
      have e2 := hQ2.lt
      have e3 := hR3.lt
      have e4 := hT4.lt
      omega
     have hK4 := h.new (N := fun j => M j ∨ (w.heap.size ≤ j ∧ j < w4.heap.size)) hb14 (fun j hj => hj)
     clear hlt1 hlt2 hlt3 hlt4 hz1 hz2 hz3 hz4 hA1 hb1 hQ2 hb2 hR3 hb3 hb4)
  | ((with_reducible show wpList _ _ _ (Oper.mk _ (Op.store 49 (.tmp 9) _) _ _ _ _ :: _) _ _); refine wpList_store_blk (by rfl) (.tmp 9) (.tmp 20) 49 (by rfl) _ 0 40 (by rfl) tz (by rfl) size_told hT4 hzl (by omega) hzo _ (whole_store hzl) ?_
     intro w5 hT5 hbut5 hs5
     have hA5 := hA4.but hbut5 (by have := HZ.out; omega)
     have hQ5 := hQ4.but hbut5 (by have := HZ.out; omega)
     have hR5 := hR4.but hbut5 (by have := HZ.out; omega)
     have hK5 := hK4.set hbut5 (.inr (by have := HZ.out; omega)) (by have := h.bel.size; have := HZ.out; omega)
     have hy5 : Stay M w w5 := (Stay.of_below hb14).new hbut5 (by have := HZ.out; omega)
     rw [HTZ.out] at hT5
     have hc0 : w5.cell? ⟨w.heap.size, 0, none⟩ = some (.int .i64 2) := (hA5.cell 0).trans HX.out.1
     clear hs5 hK4 hA4 hQ4 hR4 hb14 hbut5 hT4)
  | ((with_reducible show wpList _ _ _ (Oper.mk _ (Op.load 42 (.tmp 7)) _ _ _ _ :: _) _ _); refine wpList_load_blk (by rfl) (.tmp 7) 42 (by rfl) _ 0 35 (by rfl) agg_ptr size_ptr hQ5 _ (whole_load hvl) hvl ?_)
  | (go_at_call 52; go_must (refine (hrd _ hK5).mono ?_); rintro e w6 ⟨a6, c6, rfl, hN6, hb6⟩
     have hK6 := hK5.stays hb6
     have hy6 : Stay (fun j => M j ∨ (w.heap.size ≤ j ∧ j < w4.heap.size)) w5 w6 := Stay.of_below hb6
     have hT6 := hy6.blk hT5 (.inr (by have := HZ.out; omega))
     have hR6 := hy6.blk hR5 (.inr (by have := HZ.out; omega))
     have hy6' : Stay M w w6 := hy5.trans (hy6.less (fun j hj => .inl hj))
     have hcv := hN6.1.conv (P := Tryd.prog) rl HRL.out 43 5 Tryd.underlying43 Tryd.underlying5 9 Tryd.underlying9)
  | ((with_reducible show wpList _ _ _ (Oper.mk _ (Op.store 9 (.tmp 48) _) _ _ _ _ :: _) _ _); refine wpList_store_one (by rfl) (.tmp 48) (.tmp 47) 9 (by rfl) _ 35 (by rfl) (.string (strOfNums rr)) (by rfl) rfl rfl size_str1 hT6 (by rw [Told.vs_len Pt.zero_ok]; omega) ?_
     intro w7 hT7 hbut7 hs7
     clear hs7
     rw [← Told.put_b Pt.zero_ok rr] at hT7
     have hR7 := hR6.but hbut7 (by have := HZ.out; omega)
     have hK7 := hK6.set hbut7 (.inr (by have := HZ.out; omega)) (by have := h.bel.size; have := HZ.out; omega)
     have hy7' := hy6'.new hbut7 (by have := HZ.out; omega))
  | ((with_reducible show wpList _ _ _ (Oper.mk _ (Op.store 47 (.tmp 50) _) _ _ _ _ :: _) _ _); refine wpList_store_one (by rfl) (.tmp 50) (.tmp 49) 47 (by rfl) _ 39 (by rfl) (.int .i64 ee) (by rfl) rfl rfl size_err1 hT7 (by rw [Told.vs_len (t := { Told.zero with b := rr }) Pt.zero_ok]; omega) ?_
     intro w8 hT8 hbut8 hs8
     clear hs8
     rw [← Told.put_e (t := { Told.zero with b := rr }) Pt.zero_ok ee] at hT8
     have hR8 := hR7.but hbut8 (by have := HZ.out; omega)
     have hK8 := hK7.set hbut8 (.inr (by have := HZ.out; omega)) (by have := h.bel.size; have := HZ.out; omega)
     have hy8' := hy7'.new hbut8 (by have := HZ.out; omega)
     obtain ⟨tf, htf⟩ : ∃ tf, tf = ({ Told.zero with b := rr, e := ee } : Told).vs := ⟨_, rfl⟩
     have HTF : Hid (tf = _) := htf
     have hTFl : tf.length = 40 := by rw [htf]; exact Told.vs_len Pt.zero_ok
     have hTFo : ∀ v ∈ tf, v.oneCell' = true := by rw [htf]; exact Told.vs_one _
     have hTF := hT8
     rw [← htf] at hTF
     have hRF := hR8
     have hKF := hK8
     have hyF := hy8'
     clear htf)
  | ((with_reducible show wpList _ _ _ (Oper.mk _ (Op.load 49 _) _ _ _ _ :: _) _ _); refine wpList_load_blk (by rfl) (.tmp 9) 49 (by rfl) _ 0 40 (by rfl) agg_told size_told hTF _ (whole_load hTFl) hTFl ?_)
  | ((with_reducible show wpList _ _ _ (Oper.mk _ (Op.store 49 (.tmp 8) _) _ _ _ _ :: _) _ _); refine wpList_store_blk (by rfl) (.tmp 8) (.tmp 113) 49 (by rfl) _ 0 40 (by rfl) tf (by rfl) size_told hRF hTFl (by omega) hTFo _ (whole_store hzl) ?_
     intro wZ hRZ hbutZ hsZ))
 refine bodyPost_ret_blk rfl rfl (by rfl) agg_told size_told hRZ hTFl ⟨by rw [HTF.out], (hKF.set hbutZ (.inr (by have := HZ.out; omega)) (by have := h.bel.size; have := HZ.out; omega)).less (fun j hj => .inl hj), hyF.new hbutZ (by have := HZ.out; omega)⟩
set_option maxHeartbeats 20000000 in
theorem do_rot (h : BS w0 w M k p g S l 7) (hV : Vars w0) (hln : S.ws.length ≤ 700000) (x : ActK) (hx : ActKOk w0 x) (hxl : x.bs.length ≤ 300) (q : Pt) (hq : q.ok) (hk : x.kind = 6) :
 Calls Tryd.prog 12 #[.pointer (some ⟨k, 0, none⟩), .pointer (some ⟨p, 0, none⟩), .agg x.cells.toArray, .agg q.vs.toArray] w fun e w' => e = .returned (.agg ({ Told.zero with e := (S.rot x.at' x.bs).2 } : Told).vs.toArray) ∧ BS w0 w' M k p g (S.rot x.at' x.bs).1 l 7 ∧ Stay M w w' := by
 have HX : Hid (x.cells[0]? = some (.int .i64 6) ∧ x.cells[1]? = some (.int .i64 x.copies) ∧ x.cells[3]? = some (.int .i64 x.at') ∧ x.cells[39]? = some (.slice x.ba x.bs.length x.bc)) := ⟨by rw [← hk]; exact (ActK.cells_at hx.p).1, (ActK.cells_at hx.p).2.1, (ActK.cells_at hx.p).2.2.2.1, (ActK.cells_at hx.p).2.2.2.2⟩
 have HAL : Hid (∀ w : World, (Instr.alloc 49 true (.tuple #[])).run Tryd.prog w = .ok (.pointer (some ⟨w.heap.size, 0, none⟩)) (w.alloc (.cells Told.zero.vs.toArray 49))) := alloc_told
 have HBU : Hid (∀ w : World, (Instr.build 49 #[]).run Tryd.prog w = .ok (.agg Told.zero.vs.toArray) w) := build_told
 have hzl : Told.zero.vs.length = 40 := Told.vs_len Pt.zero_ok
 have hzo : ∀ v ∈ Told.zero.vs, v.oneCell' = true := Told.vs_one _
 have hvl : q.vs.length = 35 := Pt.vs_len hq
 have hal : x.cells.length = 40 := ActK.cells_len hx.p
 obtain ⟨tz, htz⟩ : ∃ tz, tz = Told.zero.vs := ⟨_, rfl⟩
 have HTZ : Hid (tz = Told.zero.vs) := htz
 obtain ⟨av, hav⟩ : ∃ av, av = x.cells := ⟨_, rfl⟩
 have HAV : Hid (av = x.cells) := hav
 obtain ⟨vs, hvs⟩ : ∃ vs, vs = q.vs := ⟨_, rfl⟩
 have HVS : Hid (vs = q.vs) := hvs
 rw [← htz] at HAL HBU hzl hzo
 rw [← hav] at HX hal ⊢
 rw [← hvs] at hvl ⊢
 obtain ⟨nb, hnb⟩ : ∃ nb, nb = x.bs.length := ⟨_, rfl⟩
 have hrt : ∀ u {N}, BS w0 u N k p g S l 7 → Below w0.heap.size w0 u → Calls Tryd.prog 35 #[.pointer (some ⟨p, 0, none⟩), .int .i64 x.at', .slice x.ba nb x.bc] u fun e w' => e = .returned (.int .i64 (S.rot x.at' x.bs).2) ∧ BS w0 w' N k p g (S.rot x.at' x.bs).1 l 7 ∧ Stay N u w' := fun u N hu hb => by
  rw [hnb]
  exact bs_rot hu x.at' x.ba x.bc x.bs (hx.bs.stays hb) (by omega) (fun h0 y hy => .inr (hx.bs.lt h0 hy))
 obtain ⟨ee, hee⟩ : ∃ ee, ee = (S.rot x.at' x.bs).2 := ⟨_, rfl⟩
 obtain ⟨SS, hSS⟩ : ∃ SS, SS = (S.rot x.at' x.bs).1 := ⟨_, rfl⟩
 rw [← hee, ← hSS] at hrt ⊢
 rw [← hnb] at HX
 clear hee hSS hnb
 clear htz hav hvs hk
 go_enter Tryd.func12, Tryd.ntmps12
 go_wp2_with (first
  | ((with_reducible show wpList _ _ _ (Oper.mk _ (Op.box 45 _) _ _ _ _ :: _) _ _); refine wpList_box0 (by rfl) 45 (.tmp 2) (by rfl) av (by rfl) ?_; intro w1 hA1 hb1 hs1; clear hs1)
  | ((with_reducible show wpList _ _ _ (Oper.mk _ (Op.box 42 _) _ _ _ _ :: _) _ _); refine wpList_box0 (by rfl) 42 (.tmp 3) (by rfl) vs (by rfl) ?_; intro w2 hQ2 hb2 hs2; clear hs2)
  | ((with_reducible show wpList _ _ _ (Oper.mk (some 8) (Op.alloc 49) _ _ _ _ :: _) _ _); refine wpList_alloc0 (by rfl) 49 (by rfl) (some 8) (by rfl) _ HAL.out ?_; intro w3 hR3 hb3 hs3; clear hs3)
  | ((with_reducible show wpList _ _ _ (Oper.mk _ (Op.build 49 _) _ _ _ _ :: _) _ _); refine wpList_build0 (by rfl) 49 (by rfl) _ HBU.out ?_)
  | ((with_reducible show wpList _ _ _ (Oper.mk (some 9) (Op.alloc 49) _ _ _ _ :: _) _ _); refine wpList_alloc0 (by rfl) 49 (by rfl) (some 9) (by rfl) _ HAL.out ?_; intro w4 hT4 hb4 hs4
     clear hs4
     have hb14 := below_then (below_then (below_then hb1 hb2) hb3) hb4
     have hA4 := ((hA1.stays hb2).stays hb3).stays hb4
     have hQ4 := (hQ2.stays hb3).stays hb4
     have hR4 := hR3.stays hb4
     have hlt1 := hA1.lt
     have hlt2 := hQ2.lt
     have hlt3 := hR3.lt
     have hlt4 := hT4.lt
     have hz1 := hb1.size
     have hz2 := hb2.size
     have hz3 := hb3.size
     have hz4 := hb4.size
     have HZ : Hid (w.heap.size < w1.heap.size ∧ w1.heap.size < w2.heap.size ∧ w2.heap.size < w3.heap.size ∧ w3.heap.size < w4.heap.size) := by
      show _ ∧ _ ∧ _ ∧ _
      have e1 := hA1.lt
      have e2 := hQ2.lt
      have e3 := hR3.lt
      have e4 := hT4.lt
      omega
     have hK4 := h.new (N := fun j => M j ∨ (w.heap.size ≤ j ∧ j < w4.heap.size)) hb14 (fun j hj => hj)
     clear hlt1 hlt2 hlt3 hlt4 hz1 hz2 hz3 hz4 hA1 hb1 hQ2 hb2 hR3 hb3 hb4)
  | ((with_reducible show wpList _ _ _ (Oper.mk _ (Op.store 49 (.tmp 9) _) _ _ _ _ :: _) _ _); refine wpList_store_blk (by rfl) (.tmp 9) (.tmp 20) 49 (by rfl) _ 0 40 (by rfl) tz (by rfl) size_told hT4 hzl (by omega) hzo _ (whole_store hzl) ?_
     intro w5 hT5 hbut5 hs5
     have hA5 := hA4.but hbut5 (by have := HZ.out; omega)
     have hQ5 := hQ4.but hbut5 (by have := HZ.out; omega)
     have hR5 := hR4.but hbut5 (by have := HZ.out; omega)
     have hK5 := hK4.set hbut5 (.inr (by have := HZ.out; omega)) (by have := h.bel.size; have := HZ.out; omega)
     have hy5 : Stay M w w5 := (Stay.of_below hb14).new hbut5 (by have := HZ.out; omega)
     rw [HTZ.out] at hT5
     have hc0 : w5.cell? ⟨w.heap.size, 0, none⟩ = some (.int .i64 6) := (hA5.cell 0).trans HX.out.1
     clear hs5 hK4 hA4 hQ4 hR4 hb14 hbut5 hT4
     have hc3 : w5.cell? ⟨w.heap.size, 3, none⟩ = some (.int .i64 x.at') := (hA5.cell 3).trans HX.out.2.2.1
     have hc39 : w5.cell? ⟨w.heap.size, 39, none⟩ = some (.slice x.ba nb x.bc) := (hA5.cell 39).trans HX.out.2.2.2)
  | (go_at_call 35; go_must (refine (hrt _ hK5 hK5.bel).mono ?_); rintro e w6 ⟨rfl, hK6, hy6⟩
     have hT6 := hy6.blk hT5 (.inr (by have := HZ.out; omega))
     have hR6 := hy6.blk hR5 (.inr (by have := HZ.out; omega))
     have hy6' : Stay M w w6 := hy5.trans (hy6.less (fun j hj => .inl hj)))
  | ((with_reducible show wpList _ _ _ (Oper.mk _ (Op.store 47 (.tmp 97) _) _ _ _ _ :: _) _ _); refine wpList_store_one (by rfl) (.tmp 97) (.tmp 96) 47 (by rfl) _ 39 (by rfl) (.int .i64 ee) (by rfl) rfl rfl size_err1 hT6 (by rw [Told.vs_len Pt.zero_ok]; omega) ?_
     intro w7 hT7 hbut7 hs7
     clear hs7
     rw [← Told.put_e Pt.zero_ok ee] at hT7
     have hR7 := hR6.but hbut7 (by have := HZ.out; omega)
     have hK7 := hK6.set hbut7 (.inr (by have := HZ.out; omega)) (by have := h.bel.size; have := HZ.out; omega)
     have hy7' := hy6'.new hbut7 (by have := HZ.out; omega)
     obtain ⟨tf, htf⟩ : ∃ tf, tf = ({ Told.zero with e := ee } : Told).vs := ⟨_, rfl⟩
     have HTF : Hid (tf = _) := htf
     have hTFl : tf.length = 40 := by rw [htf]; exact Told.vs_len Pt.zero_ok
     have hTFo : ∀ v ∈ tf, v.oneCell' = true := by rw [htf]; exact Told.vs_one _
     have hTF := hT7
     rw [← htf] at hTF
     have hRF := hR7
     have hKF := hK7
     have hyF := hy7'
     clear htf)
  | ((with_reducible show wpList _ _ _ (Oper.mk _ (Op.load 49 _) _ _ _ _ :: _) _ _); refine wpList_load_blk (by rfl) (.tmp 9) 49 (by rfl) _ 0 40 (by rfl) agg_told size_told hTF _ (whole_load hTFl) hTFl ?_)
  | ((with_reducible show wpList _ _ _ (Oper.mk _ (Op.store 49 (.tmp 8) _) _ _ _ _ :: _) _ _); refine wpList_store_blk (by rfl) (.tmp 8) (.tmp 113) 49 (by rfl) _ 0 40 (by rfl) tf (by rfl) size_told hRF hTFl (by omega) hTFo _ (whole_store hzl) ?_
     intro wZ hRZ hbutZ hsZ))
 refine bodyPost_ret_blk rfl rfl (by rfl) agg_told size_told hRZ hTFl ⟨by rw [HTF.out], (hKF.set hbutZ (.inr (by have := HZ.out; omega)) (by have := h.bel.size; have := HZ.out; omega)).less (fun j hj => .inl hj), hyF.new hbutZ (by have := HZ.out; omega)⟩
set_option maxHeartbeats 20000000 in
theorem do_fuse (h : BS w0 w M k p g S l 7) (hV : Vars w0) (hln : S.ws.length ≤ 700000) (x : ActK) (hx : ActKOk w0 x) (hxl : x.bs.length ≤ 300) (q : Pt) (hq : q.ok) (hk : x.kind = 7) :
 Calls Tryd.prog 12 #[.pointer (some ⟨k, 0, none⟩), .pointer (some ⟨p, 0, none⟩), .agg x.cells.toArray, .agg q.vs.toArray] w fun e w' => e = .returned (.agg Told.zero.vs.toArray) ∧ BS w0 w' M k p g (S.fuse x.at') l 7 ∧ Stay M w w' := by
 have HX : Hid (x.cells[0]? = some (.int .i64 7) ∧ x.cells[1]? = some (.int .i64 x.copies) ∧ x.cells[3]? = some (.int .i64 x.at') ∧ x.cells[39]? = some (.slice x.ba x.bs.length x.bc)) := ⟨by rw [← hk]; exact (ActK.cells_at hx.p).1, (ActK.cells_at hx.p).2.1, (ActK.cells_at hx.p).2.2.2.1, (ActK.cells_at hx.p).2.2.2.2⟩
 have HAL : Hid (∀ w : World, (Instr.alloc 49 true (.tuple #[])).run Tryd.prog w = .ok (.pointer (some ⟨w.heap.size, 0, none⟩)) (w.alloc (.cells Told.zero.vs.toArray 49))) := alloc_told
 have HBU : Hid (∀ w : World, (Instr.build 49 #[]).run Tryd.prog w = .ok (.agg Told.zero.vs.toArray) w) := build_told
 have hzl : Told.zero.vs.length = 40 := Told.vs_len Pt.zero_ok
 have hzo : ∀ v ∈ Told.zero.vs, v.oneCell' = true := Told.vs_one _
 have hvl : q.vs.length = 35 := Pt.vs_len hq
 have hal : x.cells.length = 40 := ActK.cells_len hx.p
 obtain ⟨tz, htz⟩ : ∃ tz, tz = Told.zero.vs := ⟨_, rfl⟩
 have HTZ : Hid (tz = Told.zero.vs) := htz
 obtain ⟨av, hav⟩ : ∃ av, av = x.cells := ⟨_, rfl⟩
 have HAV : Hid (av = x.cells) := hav
 obtain ⟨vs, hvs⟩ : ∃ vs, vs = q.vs := ⟨_, rfl⟩
 have HVS : Hid (vs = q.vs) := hvs
 rw [← htz] at HAL HBU hzl hzo
 rw [← hav] at HX hal ⊢
 rw [← hvs] at hvl ⊢
 clear htz hav hvs hk
 go_enter Tryd.func12, Tryd.ntmps12
 go_wp2_with (first
  | ((with_reducible show wpList _ _ _ (Oper.mk _ (Op.box 45 _) _ _ _ _ :: _) _ _); refine wpList_box0 (by rfl) 45 (.tmp 2) (by rfl) av (by rfl) ?_; intro w1 hA1 hb1 hs1; clear hs1)
  | ((with_reducible show wpList _ _ _ (Oper.mk _ (Op.box 42 _) _ _ _ _ :: _) _ _); refine wpList_box0 (by rfl) 42 (.tmp 3) (by rfl) vs (by rfl) ?_; intro w2 hQ2 hb2 hs2; clear hs2)
  | ((with_reducible show wpList _ _ _ (Oper.mk (some 8) (Op.alloc 49) _ _ _ _ :: _) _ _); refine wpList_alloc0 (by rfl) 49 (by rfl) (some 8) (by rfl) _ HAL.out ?_; intro w3 hR3 hb3 hs3; clear hs3)
  | ((with_reducible show wpList _ _ _ (Oper.mk _ (Op.build 49 _) _ _ _ _ :: _) _ _); refine wpList_build0 (by rfl) 49 (by rfl) _ HBU.out ?_)
  | ((with_reducible show wpList _ _ _ (Oper.mk (some 9) (Op.alloc 49) _ _ _ _ :: _) _ _); refine wpList_alloc0 (by rfl) 49 (by rfl) (some 9) (by rfl) _ HAL.out ?_; intro w4 hT4 hb4 hs4
     clear hs4
     have hb14 := below_then (below_then (below_then hb1 hb2) hb3) hb4
     have hA4 := ((hA1.stays hb2).stays hb3).stays hb4
     have hQ4 := (hQ2.stays hb3).stays hb4
     have hR4 := hR3.stays hb4
     have hlt1 := hA1.lt
     have hlt2 := hQ2.lt
     have hlt3 := hR3.lt
     have hlt4 := hT4.lt
     have hz1 := hb1.size
     have hz2 := hb2.size
     have hz3 := hb3.size
     have hz4 := hb4.size
     have HZ : Hid (w.heap.size < w1.heap.size ∧ w1.heap.size < w2.heap.size ∧ w2.heap.size < w3.heap.size ∧ w3.heap.size < w4.heap.size) := by
      show _ ∧ _ ∧ _ ∧ _
      have e1 := hA1.lt
      have e2 := hQ2.lt
      have e3 := hR3.lt
      have e4 := hT4.lt
      omega
     have hK4 := h.new (N := fun j => M j ∨ (w.heap.size ≤ j ∧ j < w4.heap.size)) hb14 (fun j hj => hj)
     clear hlt1 hlt2 hlt3 hlt4 hz1 hz2 hz3 hz4 hA1 hb1 hQ2 hb2 hR3 hb3 hb4)
  | ((with_reducible show wpList _ _ _ (Oper.mk _ (Op.store 49 (.tmp 9) _) _ _ _ _ :: _) _ _); refine wpList_store_blk (by rfl) (.tmp 9) (.tmp 20) 49 (by rfl) _ 0 40 (by rfl) tz (by rfl) size_told hT4 hzl (by omega) hzo _ (whole_store hzl) ?_
     intro w5 hT5 hbut5 hs5
     have hA5 := hA4.but hbut5 (by have := HZ.out; omega)
     have hQ5 := hQ4.but hbut5 (by have := HZ.out; omega)
     have hR5 := hR4.but hbut5 (by have := HZ.out; omega)
     have hK5 := hK4.set hbut5 (.inr (by have := HZ.out; omega)) (by have := h.bel.size; have := HZ.out; omega)
     have hy5 : Stay M w w5 := (Stay.of_below hb14).new hbut5 (by have := HZ.out; omega)
     rw [HTZ.out] at hT5
     have hc0 : w5.cell? ⟨w.heap.size, 0, none⟩ = some (.int .i64 7) := (hA5.cell 0).trans HX.out.1
     clear hs5 hK4 hA4 hQ4 hR4 hb14 hbut5 hT4
     have hc3 : w5.cell? ⟨w.heap.size, 3, none⟩ = some (.int .i64 x.at') := (hA5.cell 3).trans HX.out.2.2.1)
  | (go_at_call 56; go_must (refine (bs_fuse hK5 x.at' hx.at'.2).mono ?_); rintro e w6 ⟨⟨v6, rfl⟩, hK6, hy6⟩
     have hT6 := hy6.blk hT5 (.inr (by have := HZ.out; omega))
     have hR6 := hy6.blk hR5 (.inr (by have := HZ.out; omega))
     have hy6' : Stay M w w6 := hy5.trans (hy6.less (fun j hj => .inl hj))
     obtain ⟨tf, htf⟩ : ∃ tf, tf = Told.zero.vs := ⟨_, rfl⟩
     have HTF : Hid (tf = _) := htf
     have hTFl : tf.length = 40 := by rw [htf]; exact Told.vs_len Pt.zero_ok
     have hTFo : ∀ v ∈ tf, v.oneCell' = true := by rw [htf]; exact Told.vs_one _
     have hTF := hT6
     rw [← htf] at hTF
     have hRF := hR6
     have hKF := hK6
     have hyF := hy6'
     clear htf)
  | ((with_reducible show wpList _ _ _ (Oper.mk _ (Op.load 49 _) _ _ _ _ :: _) _ _); refine wpList_load_blk (by rfl) (.tmp 9) 49 (by rfl) _ 0 40 (by rfl) agg_told size_told hTF _ (whole_load hTFl) hTFl ?_)
  | ((with_reducible show wpList _ _ _ (Oper.mk _ (Op.store 49 (.tmp 8) _) _ _ _ _ :: _) _ _); refine wpList_store_blk (by rfl) (.tmp 8) (.tmp 113) 49 (by rfl) _ 0 40 (by rfl) tf (by rfl) size_told hRF hTFl (by omega) hTFo _ (whole_store hzl) ?_
     intro wZ hRZ hbutZ hsZ))
 refine bodyPost_ret_blk rfl rfl (by rfl) agg_told size_told hRZ hTFl ⟨by rw [HTF.out], (hKF.set hbutZ (.inr (by have := HZ.out; omega)) (by have := h.bel.size; have := HZ.out; omega)).less (fun j hj => .inl hj), hyF.new hbutZ (by have := HZ.out; omega)⟩
set_option maxHeartbeats 20000000 in
theorem do_crash (h : BS w0 w M k p g S l 7) (hV : Vars w0) (hln : S.ws.length ≤ 700000) (x : ActK) (hx : ActKOk w0 x) (hxl : x.bs.length ≤ 300) (q : Pt) (hq : q.ok) (hk : x.kind = 8) :
 Calls Tryd.prog 12 #[.pointer (some ⟨k, 0, none⟩), .pointer (some ⟨p, 0, none⟩), .agg x.cells.toArray, .agg q.vs.toArray] w fun e w' => e = .returned (.agg Told.zero.vs.toArray) ∧ BS w0 w' M k p g (S.crash []) l 7 ∧ Stay M w w' := by
 have HX : Hid (x.cells[0]? = some (.int .i64 8) ∧ x.cells[1]? = some (.int .i64 x.copies) ∧ x.cells[3]? = some (.int .i64 x.at') ∧ x.cells[39]? = some (.slice x.ba x.bs.length x.bc)) := ⟨by rw [← hk]; exact (ActK.cells_at hx.p).1, (ActK.cells_at hx.p).2.1, (ActK.cells_at hx.p).2.2.2.1, (ActK.cells_at hx.p).2.2.2.2⟩
 have HAL : Hid (∀ w : World, (Instr.alloc 49 true (.tuple #[])).run Tryd.prog w = .ok (.pointer (some ⟨w.heap.size, 0, none⟩)) (w.alloc (.cells Told.zero.vs.toArray 49))) := alloc_told
 have HBU : Hid (∀ w : World, (Instr.build 49 #[]).run Tryd.prog w = .ok (.agg Told.zero.vs.toArray) w) := build_told
 have hzl : Told.zero.vs.length = 40 := Told.vs_len Pt.zero_ok
 have hzo : ∀ v ∈ Told.zero.vs, v.oneCell' = true := Told.vs_one _
 have hvl : q.vs.length = 35 := Pt.vs_len hq
 have hal : x.cells.length = 40 := ActK.cells_len hx.p
 obtain ⟨tz, htz⟩ : ∃ tz, tz = Told.zero.vs := ⟨_, rfl⟩
 have HTZ : Hid (tz = Told.zero.vs) := htz
 obtain ⟨av, hav⟩ : ∃ av, av = x.cells := ⟨_, rfl⟩
 have HAV : Hid (av = x.cells) := hav
 obtain ⟨vs, hvs⟩ : ∃ vs, vs = q.vs := ⟨_, rfl⟩
 have HVS : Hid (vs = q.vs) := hvs
 rw [← htz] at HAL HBU hzl hzo
 rw [← hav] at HX hal ⊢
 rw [← hvs] at hvl ⊢
 clear htz hav hvs hk
 go_enter Tryd.func12, Tryd.ntmps12
 go_wp2_with (first
  | ((with_reducible show wpList _ _ _ (Oper.mk _ (Op.box 45 _) _ _ _ _ :: _) _ _); refine wpList_box0 (by rfl) 45 (.tmp 2) (by rfl) av (by rfl) ?_; intro w1 hA1 hb1 hs1; clear hs1)
  | ((with_reducible show wpList _ _ _ (Oper.mk _ (Op.box 42 _) _ _ _ _ :: _) _ _); refine wpList_box0 (by rfl) 42 (.tmp 3) (by rfl) vs (by rfl) ?_; intro w2 hQ2 hb2 hs2; clear hs2)
  | ((with_reducible show wpList _ _ _ (Oper.mk (some 8) (Op.alloc 49) _ _ _ _ :: _) _ _); refine wpList_alloc0 (by rfl) 49 (by rfl) (some 8) (by rfl) _ HAL.out ?_; intro w3 hR3 hb3 hs3; clear hs3)
  | ((with_reducible show wpList _ _ _ (Oper.mk _ (Op.build 49 _) _ _ _ _ :: _) _ _); refine wpList_build0 (by rfl) 49 (by rfl) _ HBU.out ?_)
  | ((with_reducible show wpList _ _ _ (Oper.mk (some 9) (Op.alloc 49) _ _ _ _ :: _) _ _); refine wpList_alloc0 (by rfl) 49 (by rfl) (some 9) (by rfl) _ HAL.out ?_; intro w4 hT4 hb4 hs4
     clear hs4
     have hb14 := below_then (below_then (below_then hb1 hb2) hb3) hb4
     have hA4 := ((hA1.stays hb2).stays hb3).stays hb4
     have hQ4 := (hQ2.stays hb3).stays hb4
     have hR4 := hR3.stays hb4
     have hlt1 := hA1.lt
     have hlt2 := hQ2.lt
     have hlt3 := hR3.lt
     have hlt4 := hT4.lt
     have hz1 := hb1.size
     have hz2 := hb2.size
     have hz3 := hb3.size
     have hz4 := hb4.size
     have HZ : Hid (w.heap.size < w1.heap.size ∧ w1.heap.size < w2.heap.size ∧ w2.heap.size < w3.heap.size ∧ w3.heap.size < w4.heap.size) := by
      show _ ∧ _ ∧ _ ∧ _
      have e1 := hA1.lt
      have e2 := hQ2.lt
      have e3 := hR3.lt
      have e4 := hT4.lt
      omega
     have hK4 := h.new (N := fun j => M j ∨ (w.heap.size ≤ j ∧ j < w4.heap.size)) hb14 (fun j hj => hj)
     clear hlt1 hlt2 hlt3 hlt4 hz1 hz2 hz3 hz4 hA1 hb1 hQ2 hb2 hR3 hb3 hb4)
  | ((with_reducible show wpList _ _ _ (Oper.mk _ (Op.store 49 (.tmp 9) _) _ _ _ _ :: _) _ _); refine wpList_store_blk (by rfl) (.tmp 9) (.tmp 20) 49 (by rfl) _ 0 40 (by rfl) tz (by rfl) size_told hT4 hzl (by omega) hzo _ (whole_store hzl) ?_
     intro w5 hT5 hbut5 hs5
     have hA5 := hA4.but hbut5 (by have := HZ.out; omega)
     have hQ5 := hQ4.but hbut5 (by have := HZ.out; omega)
     have hR5 := hR4.but hbut5 (by have := HZ.out; omega)
     have hK5 := hK4.set hbut5 (.inr (by have := HZ.out; omega)) (by have := h.bel.size; have := HZ.out; omega)
     have hy5 : Stay M w w5 := (Stay.of_below hb14).new hbut5 (by have := HZ.out; omega)
     rw [HTZ.out] at hT5
     have hc0 : w5.cell? ⟨w.heap.size, 0, none⟩ = some (.int .i64 8) := (hA5.cell 0).trans HX.out.1
     clear hs5 hK4 hA4 hQ4 hR4 hb14 hbut5 hT4)
  | (go_at_call 57; go_must (refine (bs_crash hK5 (by omega)).mono ?_); rintro e w6 ⟨⟨v6, rfl⟩, hK6, hy6⟩
     have hT6 := hy6.blk hT5 (.inr (by have := HZ.out; omega))
     have hR6 := hy6.blk hR5 (.inr (by have := HZ.out; omega))
     have hy6' : Stay M w w6 := hy5.trans (hy6.less (fun j hj => .inl hj))
     obtain ⟨tf, htf⟩ : ∃ tf, tf = Told.zero.vs := ⟨_, rfl⟩
     have HTF : Hid (tf = _) := htf
     have hTFl : tf.length = 40 := by rw [htf]; exact Told.vs_len Pt.zero_ok
     have hTFo : ∀ v ∈ tf, v.oneCell' = true := by rw [htf]; exact Told.vs_one _
     have hTF := hT6
     rw [← htf] at hTF
     have hRF := hR6
     have hKF := hK6
     have hyF := hy6'
     clear htf)
  | ((with_reducible show wpList _ _ _ (Oper.mk _ (Op.load 49 _) _ _ _ _ :: _) _ _); refine wpList_load_blk (by rfl) (.tmp 9) 49 (by rfl) _ 0 40 (by rfl) agg_told size_told hTF _ (whole_load hTFl) hTFl ?_)
  | ((with_reducible show wpList _ _ _ (Oper.mk _ (Op.store 49 (.tmp 8) _) _ _ _ _ :: _) _ _); refine wpList_store_blk (by rfl) (.tmp 8) (.tmp 113) 49 (by rfl) _ 0 40 (by rfl) tf (by rfl) size_told hRF hTFl (by omega) hTFo _ (whole_store hzl) ?_
     intro wZ hRZ hbutZ hsZ))
 refine bodyPost_ret_blk rfl rfl (by rfl) agg_told size_told hRZ hTFl ⟨by rw [HTF.out], (hKF.set hbutZ (.inr (by have := HZ.out; omega)) (by have := h.bel.size; have := HZ.out; omega)).less (fun j hj => .inl hj), hyF.new hbutZ (by have := HZ.out; omega)⟩
set_option maxHeartbeats 20000000 in
theorem do_flush (h : BS w0 w M k p g S l 7) (hV : Vars w0) (hln : S.ws.length ≤ 700000) (x : ActK) (hx : ActKOk w0 x) (hxl : x.bs.length ≤ 300) (q : Pt) (hq : q.ok) (hk : x.kind = 9) :
 Calls Tryd.prog 12 #[.pointer (some ⟨k, 0, none⟩), .pointer (some ⟨p, 0, none⟩), .agg x.cells.toArray, .agg q.vs.toArray] w fun e w' => e = .returned (.agg ({ Told.zero with e := S.flush.2 } : Told).vs.toArray) ∧ BS w0 w' M k p g S.flush.1 l 7 ∧ Stay M w w' := by
 have HX : Hid (x.cells[0]? = some (.int .i64 9) ∧ x.cells[1]? = some (.int .i64 x.copies) ∧ x.cells[3]? = some (.int .i64 x.at') ∧ x.cells[39]? = some (.slice x.ba x.bs.length x.bc)) := ⟨by rw [← hk]; exact (ActK.cells_at hx.p).1, (ActK.cells_at hx.p).2.1, (ActK.cells_at hx.p).2.2.2.1, (ActK.cells_at hx.p).2.2.2.2⟩
 have HAL : Hid (∀ w : World, (Instr.alloc 49 true (.tuple #[])).run Tryd.prog w = .ok (.pointer (some ⟨w.heap.size, 0, none⟩)) (w.alloc (.cells Told.zero.vs.toArray 49))) := alloc_told
 have HBU : Hid (∀ w : World, (Instr.build 49 #[]).run Tryd.prog w = .ok (.agg Told.zero.vs.toArray) w) := build_told
 have hzl : Told.zero.vs.length = 40 := Told.vs_len Pt.zero_ok
 have hzo : ∀ v ∈ Told.zero.vs, v.oneCell' = true := Told.vs_one _
 have hvl : q.vs.length = 35 := Pt.vs_len hq
 have hal : x.cells.length = 40 := ActK.cells_len hx.p
 obtain ⟨tz, htz⟩ : ∃ tz, tz = Told.zero.vs := ⟨_, rfl⟩
 have HTZ : Hid (tz = Told.zero.vs) := htz
 obtain ⟨av, hav⟩ : ∃ av, av = x.cells := ⟨_, rfl⟩
 have HAV : Hid (av = x.cells) := hav
 obtain ⟨vs, hvs⟩ : ∃ vs, vs = q.vs := ⟨_, rfl⟩
 have HVS : Hid (vs = q.vs) := hvs
 rw [← htz] at HAL HBU hzl hzo
 rw [← hav] at HX hal ⊢
 rw [← hvs] at hvl ⊢
 have hfl : ∀ u {N}, BS w0 u N k p g S l 7 → Calls Tryd.prog 34 #[.pointer (some ⟨p, 0, none⟩)] u fun e w' => e = .returned (.int .i64 S.flush.2) ∧ BS w0 w' N k p g S.flush.1 l 7 ∧ Stay N u w' := fun u N hu => bs_flush hu (by omega)
 obtain ⟨ee, hee⟩ : ∃ ee, ee = S.flush.2 := ⟨_, rfl⟩
 obtain ⟨SS, hSS⟩ : ∃ SS, SS = S.flush.1 := ⟨_, rfl⟩
 rw [← hee, ← hSS] at hfl ⊢
 clear hee hSS
 clear htz hav hvs hk
 go_enter Tryd.func12, Tryd.ntmps12
 go_wp2_with (first
  | ((with_reducible show wpList _ _ _ (Oper.mk _ (Op.box 45 _) _ _ _ _ :: _) _ _); refine wpList_box0 (by rfl) 45 (.tmp 2) (by rfl) av (by rfl) ?_; intro w1 hA1 hb1 hs1; clear hs1)
  | ((with_reducible show wpList _ _ _ (Oper.mk _ (Op.box 42 _) _ _ _ _ :: _) _ _); refine wpList_box0 (by rfl) 42 (.tmp 3) (by rfl) vs (by rfl) ?_; intro w2 hQ2 hb2 hs2; clear hs2)
  | ((with_reducible show wpList _ _ _ (Oper.mk (some 8) (Op.alloc 49) _ _ _ _ :: _) _ _); refine wpList_alloc0 (by rfl) 49 (by rfl) (some 8) (by rfl) _ HAL.out ?_; intro w3 hR3 hb3 hs3; clear hs3)
  | ((with_reducible show wpList _ _ _ (Oper.mk _ (Op.build 49 _) _ _ _ _ :: _) _ _); refine wpList_build0 (by rfl) 49 (by rfl) _ HBU.out ?_)
  | ((with_reducible show wpList _ _ _ (Oper.mk (some 9) (Op.alloc 49) _ _ _ _ :: _) _ _); refine wpList_alloc0 (by rfl) 49 (by rfl) (some 9) (by rfl) _ HAL.out ?_; intro w4 hT4 hb4 hs4
     clear hs4
     have hb14 := below_then (below_then (below_then hb1 hb2) hb3) hb4
     have hA4 := ((hA1.stays hb2).stays hb3).stays hb4
     have hQ4 := (hQ2.stays hb3).stays hb4
     have hR4 := hR3.stays hb4
     have hlt1 := hA1.lt
     have hlt2 := hQ2.lt
     have hlt3 := hR3.lt
     have hlt4 := hT4.lt
     have hz1 := hb1.size
     have hz2 := hb2.size
     have hz3 := hb3.size
     have hz4 := hb4.size
     have HZ : Hid (w.heap.size < w1.heap.size ∧ w1.heap.size < w2.heap.size ∧ w2.heap.size < w3.heap.size ∧ w3.heap.size < w4.heap.size) := by
      show _ ∧ _ ∧ _ ∧ _
      have e1 := hA1.lt
      have e2 := hQ2.lt
      have e3 := hR3.lt
      have e4 := hT4.lt
      omega
     have hK4 := h.new (N := fun j => M j ∨ (w.heap.size ≤ j ∧ j < w4.heap.size)) hb14 (fun j hj => hj)
     clear hlt1 hlt2 hlt3 hlt4 hz1 hz2 hz3 hz4 hA1 hb1 hQ2 hb2 hR3 hb3 hb4)
  | ((with_reducible show wpList _ _ _ (Oper.mk _ (Op.store 49 (.tmp 9) _) _ _ _ _ :: _) _ _); refine wpList_store_blk (by rfl) (.tmp 9) (.tmp 20) 49 (by rfl) _ 0 40 (by rfl) tz (by rfl) size_told hT4 hzl (by omega) hzo _ (whole_store hzl) ?_
     intro w5 hT5 hbut5 hs5
     have hA5 := hA4.but hbut5 (by have := HZ.out; omega)
     have hQ5 := hQ4.but hbut5 (by have := HZ.out; omega)
     have hR5 := hR4.but hbut5 (by have := HZ.out; omega)
     have hK5 := hK4.set hbut5 (.inr (by have := HZ.out; omega)) (by have := h.bel.size; have := HZ.out; omega)
     have hy5 : Stay M w w5 := (Stay.of_below hb14).new hbut5 (by have := HZ.out; omega)
     rw [HTZ.out] at hT5
     have hc0 : w5.cell? ⟨w.heap.size, 0, none⟩ = some (.int .i64 9) := (hA5.cell 0).trans HX.out.1
     clear hs5 hK4 hA4 hQ4 hR4 hb14 hbut5 hT4)
  | (go_at_call 34; go_must (refine (hfl _ hK5).mono ?_); rintro e w6 ⟨rfl, hK6, hy6⟩
     have hT6 := hy6.blk hT5 (.inr (by have := HZ.out; omega))
     have hR6 := hy6.blk hR5 (.inr (by have := HZ.out; omega))
     have hy6' : Stay M w w6 := hy5.trans (hy6.less (fun j hj => .inl hj)))
  | ((with_reducible show wpList _ _ _ (Oper.mk _ (Op.store 47 (.tmp 112) _) _ _ _ _ :: _) _ _); refine wpList_store_one (by rfl) (.tmp 112) (.tmp 111) 47 (by rfl) _ 39 (by rfl) (.int .i64 ee) (by rfl) rfl rfl size_err1 hT6 (by rw [Told.vs_len Pt.zero_ok]; omega) ?_
     intro w7 hT7 hbut7 hs7
     clear hs7
     rw [← Told.put_e Pt.zero_ok ee] at hT7
     have hR7 := hR6.but hbut7 (by have := HZ.out; omega)
     have hK7 := hK6.set hbut7 (.inr (by have := HZ.out; omega)) (by have := h.bel.size; have := HZ.out; omega)
     have hy7' := hy6'.new hbut7 (by have := HZ.out; omega)
     obtain ⟨tf, htf⟩ : ∃ tf, tf = ({ Told.zero with e := ee } : Told).vs := ⟨_, rfl⟩
     have HTF : Hid (tf = _) := htf
     have hTFl : tf.length = 40 := by rw [htf]; exact Told.vs_len Pt.zero_ok
     have hTFo : ∀ v ∈ tf, v.oneCell' = true := by rw [htf]; exact Told.vs_one _
     have hTF := hT7
     rw [← htf] at hTF
     have hRF := hR7
     have hKF := hK7
     have hyF := hy7'
     clear htf)
  | ((with_reducible show wpList _ _ _ (Oper.mk _ (Op.load 49 _) _ _ _ _ :: _) _ _); refine wpList_load_blk (by rfl) (.tmp 9) 49 (by rfl) _ 0 40 (by rfl) agg_told size_told hTF _ (whole_load hTFl) hTFl ?_)
  | ((with_reducible show wpList _ _ _ (Oper.mk _ (Op.store 49 (.tmp 8) _) _ _ _ _ :: _) _ _); refine wpList_store_blk (by rfl) (.tmp 8) (.tmp 113) 49 (by rfl) _ 0 40 (by rfl) tf (by rfl) size_told hRF hTFl (by omega) hTFo _ (whole_store hzl) ?_
     intro wZ hRZ hbutZ hsZ))
 refine bodyPost_ret_blk rfl rfl (by rfl) agg_told size_told hRZ hTFl ⟨by rw [HTF.out], (hKF.set hbutZ (.inr (by have := HZ.out; omega)) (by have := h.bel.size; have := HZ.out; omega)).less (fun j hj => .inl hj), hyF.new hbutZ (by have := HZ.out; omega)⟩
set_option maxHeartbeats 20000000 in
theorem do_none (h : BS w0 w M k p g S l 7) (hV : Vars w0) (hln : S.ws.length ≤ 700000) (x : ActK) (hx : ActKOk w0 x) (hxl : x.bs.length ≤ 300) (q : Pt) (hq : q.ok) (hn : x.kind ≠ 1 ∧ x.kind ≠ 2 ∧ x.kind ≠ 3 ∧ x.kind ≠ 4 ∧ x.kind ≠ 5 ∧ x.kind ≠ 6 ∧ x.kind ≠ 7 ∧ x.kind ≠ 8 ∧ x.kind ≠ 9) :
 Calls Tryd.prog 12 #[.pointer (some ⟨k, 0, none⟩), .pointer (some ⟨p, 0, none⟩), .agg x.cells.toArray, .agg q.vs.toArray] w fun e w' => e = .returned (.agg Told.zero.vs.toArray) ∧ BS w0 w' M k p g S l 7 ∧ Stay M w w' := by
 have HX : Hid (x.cells[0]? = some (.int .i64 x.kind) ∧ x.cells[1]? = some (.int .i64 x.copies) ∧ x.cells[3]? = some (.int .i64 x.at') ∧ x.cells[39]? = some (.slice x.ba x.bs.length x.bc)) := ⟨(ActK.cells_at hx.p).1, (ActK.cells_at hx.p).2.1, (ActK.cells_at hx.p).2.2.2.1, (ActK.cells_at hx.p).2.2.2.2⟩
 have HAL : Hid (∀ w : World, (Instr.alloc 49 true (.tuple #[])).run Tryd.prog w = .ok (.pointer (some ⟨w.heap.size, 0, none⟩)) (w.alloc (.cells Told.zero.vs.toArray 49))) := alloc_told
 have HBU : Hid (∀ w : World, (Instr.build 49 #[]).run Tryd.prog w = .ok (.agg Told.zero.vs.toArray) w) := build_told
 have hzl : Told.zero.vs.length = 40 := Told.vs_len Pt.zero_ok
 have hzo : ∀ v ∈ Told.zero.vs, v.oneCell' = true := Told.vs_one _
 have hvl : q.vs.length = 35 := Pt.vs_len hq
 have hal : x.cells.length = 40 := ActK.cells_len hx.p
 obtain ⟨tz, htz⟩ : ∃ tz, tz = Told.zero.vs := ⟨_, rfl⟩
 have HTZ : Hid (tz = Told.zero.vs) := htz
 obtain ⟨av, hav⟩ : ∃ av, av = x.cells := ⟨_, rfl⟩
 have HAV : Hid (av = x.cells) := hav
 obtain ⟨vs, hvs⟩ : ∃ vs, vs = q.vs := ⟨_, rfl⟩
 have HVS : Hid (vs = q.vs) := hvs
 rw [← htz] at HAL HBU hzl hzo
 rw [← hav] at HX hal ⊢
 rw [← hvs] at hvl ⊢
 have HN : Hid ((x.kind == 1) = false ∧ (x.kind == 2) = false ∧ (x.kind == 3) = false ∧ (x.kind == 4) = false ∧ (x.kind == 5) = false ∧ (x.kind == 6) = false ∧ (x.kind == 7) = false ∧ (x.kind == 8) = false ∧ (x.kind == 9) = false) := by
  obtain ⟨a1, a2, a3, a4, a5, a6, a7, a8, a9⟩ := hn
  simp [Hid, a1, a2, a3, a4, a5, a6, a7, a8, a9]
 obtain ⟨n1, n2, n3, n4, n5, n6, n7, n8, n9⟩ := HN.out
 obtain ⟨kd, hkd⟩ : ∃ kd, kd = x.kind := ⟨_, rfl⟩
 rw [← hkd] at HX n1 n2 n3 n4 n5 n6 n7 n8 n9
 clear htz hav hvs hn hkd HN
 go_enter Tryd.func12, Tryd.ntmps12
 go_wp2_with (first
  | ((with_reducible show wpList _ _ _ (Oper.mk _ (Op.box 45 _) _ _ _ _ :: _) _ _); refine wpList_box0 (by rfl) 45 (.tmp 2) (by rfl) av (by rfl) ?_; intro w1 hA1 hb1 hs1; clear hs1)
  | ((with_reducible show wpList _ _ _ (Oper.mk _ (Op.box 42 _) _ _ _ _ :: _) _ _); refine wpList_box0 (by rfl) 42 (.tmp 3) (by rfl) vs (by rfl) ?_; intro w2 hQ2 hb2 hs2; clear hs2)
  | ((with_reducible show wpList _ _ _ (Oper.mk (some 8) (Op.alloc 49) _ _ _ _ :: _) _ _); refine wpList_alloc0 (by rfl) 49 (by rfl) (some 8) (by rfl) _ HAL.out ?_; intro w3 hR3 hb3 hs3; clear hs3)
  | ((with_reducible show wpList _ _ _ (Oper.mk _ (Op.build 49 _) _ _ _ _ :: _) _ _); refine wpList_build0 (by rfl) 49 (by rfl) _ HBU.out ?_)
  | ((with_reducible show wpList _ _ _ (Oper.mk (some 9) (Op.alloc 49) _ _ _ _ :: _) _ _); refine wpList_alloc0 (by rfl) 49 (by rfl) (some 9) (by rfl) _ HAL.out ?_; intro w4 hT4 hb4 hs4
     clear hs4
     have hb14 := below_then (below_then (below_then hb1 hb2) hb3) hb4
     have hA4 := ((hA1.stays hb2).stays hb3).stays hb4
     have hQ4 := (hQ2.stays hb3).stays hb4
     have hR4 := hR3.stays hb4
     have hlt1 := hA1.lt
     have hlt2 := hQ2.lt
     have hlt3 := hR3.lt
     have hlt4 := hT4.lt
     have hz1 := hb1.size
     have hz2 := hb2.size
     have hz3 := hb3.size
     have hz4 := hb4.size
     have HZ : Hid (w.heap.size < w1.heap.size ∧ w1.heap.size < w2.heap.size ∧ w2.heap.size < w3.heap.size ∧ w3.heap.size < w4.heap.size) := by
      show _ ∧ _ ∧ _ ∧ _
      have e1 := hA1.lt
      have e2 := hQ2.lt
      have e3 := hR3.lt
      have e4 := hT4.lt
      omega
     have hK4 := h.new (N := fun j => M j ∨ (w.heap.size ≤ j ∧ j < w4.heap.size)) hb14 (fun j hj => hj)
     clear hlt1 hlt2 hlt3 hlt4 hz1 hz2 hz3 hz4 hA1 hb1 hQ2 hb2 hR3 hb3 hb4)
  | ((with_reducible show wpList _ _ _ (Oper.mk _ (Op.store 49 (.tmp 9) _) _ _ _ _ :: _) _ _); refine wpList_store_blk (by rfl) (.tmp 9) (.tmp 20) 49 (by rfl) _ 0 40 (by rfl) tz (by rfl) size_told hT4 hzl (by omega) hzo _ (whole_store hzl) ?_
     intro w5 hT5 hbut5 hs5
     have hA5 := hA4.but hbut5 (by have := HZ.out; omega)
     have hQ5 := hQ4.but hbut5 (by have := HZ.out; omega)
     have hR5 := hR4.but hbut5 (by have := HZ.out; omega)
     have hK5 := hK4.set hbut5 (.inr (by have := HZ.out; omega)) (by have := h.bel.size; have := HZ.out; omega)
     have hy5 : Stay M w w5 := (Stay.of_below hb14).new hbut5 (by have := HZ.out; omega)
     rw [HTZ.out] at hT5
     have hc0 : w5.cell? ⟨w.heap.size, 0, none⟩ = some (.int .i64 kd) := (hA5.cell 0).trans HX.out.1
     clear hs5 hK4 hA4 hQ4 hR4 hb14 hbut5 hT4
     obtain ⟨tf, htf⟩ : ∃ tf, tf = Told.zero.vs := ⟨_, rfl⟩
     have HTF : Hid (tf = _) := htf
     have hTFl : tf.length = 40 := by rw [htf]; exact Told.vs_len Pt.zero_ok
     have hTFo : ∀ v ∈ tf, v.oneCell' = true := by rw [htf]; exact Told.vs_one _
     have hTF := hT5
     rw [← htf] at hTF
     have hRF := hR5
     have hKF := hK5
     have hyF := hy5
     clear htf)
  | ((with_reducible show wpList _ _ _ (Oper.mk _ (Op.load 49 _) _ _ _ _ :: _) _ _); refine wpList_load_blk (by rfl) (.tmp 9) 49 (by rfl) _ 0 40 (by rfl) agg_told size_told hTF _ (whole_load hTFl) hTFl ?_)
  | ((with_reducible show wpList _ _ _ (Oper.mk _ (Op.store 49 (.tmp 8) _) _ _ _ _ :: _) _ _); refine wpList_store_blk (by rfl) (.tmp 8) (.tmp 113) 49 (by rfl) _ 0 40 (by rfl) tf (by rfl) size_told hRF hTFl (by omega) hTFo _ (whole_store hzl) ?_
     intro wZ hRZ hbutZ hsZ))
 refine bodyPost_ret_blk rfl rfl (by rfl) agg_told size_told hRZ hTFl ⟨by rw [HTF.out], (hKF.set hbutZ (.inr (by have := HZ.out; omega)) (by have := h.bel.size; have := HZ.out; omega)).less (fun j hj => .inl hj), hyF.new hbutZ (by have := HZ.out; omega)⟩
set_option maxHeartbeats 20000000 in
theorem do_look (h : BS w0 w M k p g S l 7) (hV : Vars w0) (hln : S.ws.length ≤ 700000) (x : ActK) (hx : ActKOk w0 x) (hxl : x.bs.length ≤ 300) (q : Pt) (hq : q.ok) (hk : x.kind = 3) :
 Calls Tryd.prog 12 #[.pointer (some ⟨k, 0, none⟩), .pointer (some ⟨p, 0, none⟩), .agg x.cells.toArray, .agg q.vs.toArray] w fun e w' => e = .returned (.agg ({ Told.zero with g0 := (lookK S q).1.1, g1 := (lookK S q).1.2, e := (lookK S q).2 } : Told).vs.toArray) ∧ BS w0 w' M k p g S l 7 ∧ Stay M w w' := by
 have HX : Hid (x.cells[0]? = some (.int .i64 3) ∧ x.cells[1]? = some (.int .i64 x.copies) ∧ x.cells[3]? = some (.int .i64 x.at') ∧ x.cells[39]? = some (.slice x.ba x.bs.length x.bc)) := ⟨by rw [← hk]; exact (ActK.cells_at hx.p).1, (ActK.cells_at hx.p).2.1, (ActK.cells_at hx.p).2.2.2.1, (ActK.cells_at hx.p).2.2.2.2⟩
 have HAL : Hid (∀ w : World, (Instr.alloc 49 true (.tuple #[])).run Tryd.prog w = .ok (.pointer (some ⟨w.heap.size, 0, none⟩)) (w.alloc (.cells Told.zero.vs.toArray 49))) := alloc_told
 have HBU : Hid (∀ w : World, (Instr.build 49 #[]).run Tryd.prog w = .ok (.agg Told.zero.vs.toArray) w) := build_told
 have hzl : Told.zero.vs.length = 40 := Told.vs_len Pt.zero_ok
 have hzo : ∀ v ∈ Told.zero.vs, v.oneCell' = true := Told.vs_one _
 have hvl : q.vs.length = 35 := Pt.vs_len hq
 have hal : x.cells.length = 40 := ActK.cells_len hx.p
 obtain ⟨tz, htz⟩ : ∃ tz, tz = Told.zero.vs := ⟨_, rfl⟩
 have HTZ : Hid (tz = Told.zero.vs) := htz
 obtain ⟨av, hav⟩ : ∃ av, av = x.cells := ⟨_, rfl⟩
 have HAV : Hid (av = x.cells) := hav
 obtain ⟨vs, hvs⟩ : ∃ vs, vs = q.vs := ⟨_, rfl⟩
 have HVS : Hid (vs = q.vs) := hvs
 rw [← htz] at HAL HBU hzl hzo
 rw [← hav] at HX hal ⊢
 rw [← hvs] at hvl ⊢
 have hlk : ∀ u {N}, BS w0 u N k p g S l 7 → Calls Tryd.prog 53 #[.pointer (some ⟨k, 0, none⟩), .agg vs.toArray] u fun e w' => e = .returned (.tuple #[.agg (twoB (lookK S q).1.1 (lookK S q).1.2).toArray, .int .i64 (lookK S q).2]) ∧ Below u.heap.size u w' := fun u N hu => by rw [HVS.out]; exact bs_look hu hV (by omega) q hq
 obtain ⟨xb, hxb⟩ : ∃ xb, xb = (lookK S q).1.1 := ⟨_, rfl⟩
 obtain ⟨yb, hyb⟩ : ∃ yb, yb = (lookK S q).1.2 := ⟨_, rfl⟩
 obtain ⟨ee, hee⟩ : ∃ ee, ee = (lookK S q).2 := ⟨_, rfl⟩
 rw [← hxb, ← hyb, ← hee] at hlk ⊢
 have HAB : Hid (∀ w : World, (Instr.alloc 46 true (.tuple #[])).run Tryd.prog w = .ok (.pointer (some ⟨w.heap.size, 0, none⟩)) (w.alloc (.cells (twoB false false).toArray 46))) := alloc_bools
 have hffl : (twoB false false).length = 2 := rfl
 have hxyl : (twoB xb yb).length = 2 := rfl
 have hxyo : ∀ v ∈ twoB xb yb, v.oneCell' = true := twoB_one _ _
 have HPG : Hid (({ Told.zero with g0 := xb, g1 := yb } : Told).vs = Told.zero.vs.take 36 ++ twoB xb yb ++ Told.zero.vs.drop (36 + 2)) := Told.put_g Pt.zero_ok xb yb
 obtain ⟨ff, hff⟩ : ∃ ff, ff = twoB false false := ⟨_, rfl⟩
 obtain ⟨xy, hxy⟩ : ∃ xy, xy = twoB xb yb := ⟨_, rfl⟩
 rw [← hff] at HAB hffl
 rw [← hxy] at hlk hxyl hxyo HPG
 clear hxb hyb hee hff hxy
 clear htz hav hvs hk
 go_enter Tryd.func12, Tryd.ntmps12
 go_wp2_with (first
  | ((with_reducible show wpList _ _ _ (Oper.mk _ (Op.box 45 _) _ _ _ _ :: _) _ _); refine wpList_box0 (by rfl) 45 (.tmp 2) (by rfl) av (by rfl) ?_; intro w1 hA1 hb1 hs1; clear hs1)
  | ((with_reducible show wpList _ _ _ (Oper.mk _ (Op.box 42 _) _ _ _ _ :: _) _ _); refine wpList_box0 (by rfl) 42 (.tmp 3) (by rfl) vs (by rfl) ?_; intro w2 hQ2 hb2 hs2; clear hs2)
  | ((with_reducible show wpList _ _ _ (Oper.mk (some 8) (Op.alloc 49) _ _ _ _ :: _) _ _); refine wpList_alloc0 (by rfl) 49 (by rfl) (some 8) (by rfl) _ HAL.out ?_; intro w3 hR3 hb3 hs3; clear hs3)
  | ((with_reducible show wpList _ _ _ (Oper.mk _ (Op.build 49 _) _ _ _ _ :: _) _ _); refine wpList_build0 (by rfl) 49 (by rfl) _ HBU.out ?_)
  | ((with_reducible show wpList _ _ _ (Oper.mk (some 9) (Op.alloc 49) _ _ _ _ :: _) _ _); refine wpList_alloc0 (by rfl) 49 (by rfl) (some 9) (by rfl) _ HAL.out ?_; intro w4 hT4 hb4 hs4
     clear hs4
     have hb14 := below_then (below_then (below_then hb1 hb2) hb3) hb4
     have hA4 := ((hA1.stays hb2).stays hb3).stays hb4
     have hQ4 := (hQ2.stays hb3).stays hb4
     have hR4 := hR3.stays hb4
     have hlt1 := hA1.lt
     have hlt2 := hQ2.lt
     have hlt3 := hR3.lt
     have hlt4 := hT4.lt
     have hz1 := hb1.size
     have hz2 := hb2.size
     have hz3 := hb3.size
     have hz4 := hb4.size
     have HZ : Hid (w.heap.size < w1.heap.size ∧ w1.heap.size < w2.heap.size ∧ w2.heap.size < w3.heap.size ∧ w3.heap.size < w4.heap.size) := by
      show _ ∧ _ ∧ _ ∧ _
      have e1 := hA1.lt
      have e2 := hQ2.lt
      have e3 := hR3.lt
      have e4 := hT4.lt
      omega
     have hK4 := h.new (N := fun j => M j ∨ (w.heap.size ≤ j ∧ j < w4.heap.size)) hb14 (fun j hj => hj)
     clear hlt1 hlt2 hlt3 hlt4 hz1 hz2 hz3 hz4 hA1 hb1 hQ2 hb2 hR3 hb3 hb4)
  | ((with_reducible show wpList _ _ _ (Oper.mk _ (Op.store 49 (.tmp 9) _) _ _ _ _ :: _) _ _); refine wpList_store_blk (by rfl) (.tmp 9) (.tmp 20) 49 (by rfl) _ 0 40 (by rfl) tz (by rfl) size_told hT4 hzl (by omega) hzo _ (whole_store hzl) ?_
     intro w5 hT5 hbut5 hs5
     have hA5 := hA4.but hbut5 (by have := HZ.out; omega)
     have hQ5 := hQ4.but hbut5 (by have := HZ.out; omega)
     have hR5 := hR4.but hbut5 (by have := HZ.out; omega)
     have hK5 := hK4.set hbut5 (.inr (by have := HZ.out; omega)) (by have := h.bel.size; have := HZ.out; omega)
     have hy5 : Stay M w w5 := (Stay.of_below hb14).new hbut5 (by have := HZ.out; omega)
     rw [HTZ.out] at hT5
     have hc0 : w5.cell? ⟨w.heap.size, 0, none⟩ = some (.int .i64 3) := (hA5.cell 0).trans HX.out.1
     clear hs5 hK4 hA4 hQ4 hR4 hb14 hbut5 hT4)
  | ((with_reducible show wpList _ _ _ (Oper.mk _ (Op.load 42 (.tmp 7)) _ _ _ _ :: _) _ _); refine wpList_load_blk (by rfl) (.tmp 7) 42 (by rfl) _ 0 35 (by rfl) agg_ptr size_ptr hQ5 _ (whole_load hvl) hvl ?_)
  | (go_at_call 53; go_must (refine (hlk _ hK5).mono ?_); rintro e w6 ⟨rfl, hb6⟩
     have hK6 := hK5.stays hb6
     have hy6 : Stay (fun j => M j ∨ (w.heap.size ≤ j ∧ j < w4.heap.size)) w5 w6 := Stay.of_below hb6
     have hT6 := hy6.blk hT5 (.inr (by have := HZ.out; omega))
     have hR6 := hy6.blk hR5 (.inr (by have := HZ.out; omega))
     have hy6' : Stay M w w6 := hy5.trans (hy6.less (fun j hj => .inl hj)))
  | ((with_reducible show wpList _ _ _ (Oper.mk _ (Op.alloc 46) _ _ _ _ :: _) _ _); refine wpList_alloc0 (by rfl) 46 (by rfl) (some 14) (by rfl) _ HAB.out ?_; intro w7 hG7 hb7 hs7
     have hlt6 : w3.heap.size < w6.heap.size := hT6.lt
     have HNE : Hid (w6.heap.size ≠ w3.heap.size ∧ w6.heap.size ≠ w2.heap.size ∧ w.heap.size ≤ w6.heap.size) := by
      show _ ∧ _ ∧ _
      have := HZ.out
      omega
     have hT7 := hT6.stays hb7
     have hR7 := hR6.stays hb7
     have hK7 := hK6.new (N := fun j => M j ∨ (w.heap.size ≤ j ∧ j < w4.heap.size) ∨ j = w6.heap.size) hb7 (fun j hj => by
      rcases hj with h1 | h1 | h1
      · exact .inl (.inl h1)
      · exact .inl (.inr h1)
      · exact .inr (by rw [h1]; exact ⟨Nat.le_refl _, by omega⟩))
     have hy7' : Stay M w w7 := hy6'.trans (Stay.of_below hb7)
     clear hs7 hlt6)
  | ((with_reducible show wpList _ _ _ (Oper.mk _ (Op.store 46 (.tmp 14) _) _ _ _ _ :: _) _ _); refine wpList_store_blk (by rfl) (.tmp 14) (.tmp 57) 46 (by rfl) _ 0 2 (by rfl) xy (by rfl) size_bools hG7 hxyl (by omega) hxyo _ (whole_store hffl) ?_
     intro w8 hG8 hbut8 hs8
     have hT8 := hT7.but hbut8 (Ne.symm HNE.out.1)
     have hR8 := hR7.but hbut8 (Ne.symm HNE.out.2.1)
     have hK8' := hK7.set hbut8 (.inr (.inr rfl)) (by have := h.bel.size; have := HNE.out; omega)
     have hK8 := hK8'.less (N := fun j => M j ∨ (w.heap.size ≤ j ∧ j < w4.heap.size)) (fun j hj => hj.imp id .inl)
     have hy8' : Stay M w w8 := hy7'.new hbut8 HNE.out.2.2
     clear hs8 hK8')
  | ((with_reducible show wpList _ _ _ (Oper.mk _ (Op.load 46 _) _ _ _ _ :: _) _ _); refine wpList_load_blk (by rfl) (.tmp 14) 46 (by rfl) _ 0 2 (by rfl) agg_bools size_bools hG8 _ (whole_load hxyl) hxyl ?_)
  | ((with_reducible show wpList _ _ _ (Oper.mk _ (Op.store 46 (.tmp 60) _) _ _ _ _ :: _) _ _); refine wpList_store_blk (by rfl) (.tmp 60) (.tmp 59) 46 (by rfl) _ 36 2 (by rfl) xy (by rfl) size_bools hT8 hxyl (by rw [Told.vs_len Pt.zero_ok]; omega) hxyo _ HPG.out ?_
     intro w9 hT9 hbut9 hs9
     have hR9 := hR8.but hbut9 (by have := HZ.out; omega)
     have hK9 := hK8.set hbut9 (.inr (by have := HZ.out; omega)) (by have := h.bel.size; have := HZ.out; omega)
     have hy9' := hy8'.new hbut9 (by have := HZ.out; omega)
     clear hs9)
  | ((with_reducible show wpList _ _ _ (Oper.mk _ (Op.store 47 (.tmp 62) _) _ _ _ _ :: _) _ _); refine wpList_store_one (by rfl) (.tmp 62) (.tmp 61) 47 (by rfl) _ 39 (by rfl) (.int .i64 ee) (by rfl) rfl rfl size_err1 hT9 (by rw [Told.vs_len (t := { Told.zero with g0 := xb, g1 := yb }) Pt.zero_ok]; omega) ?_
     intro w10 hT10 hbut10 hs10
     clear hs10
     rw [← Told.put_e (t := { Told.zero with g0 := xb, g1 := yb }) Pt.zero_ok ee] at hT10
     have hR10 := hR9.but hbut10 (by have := HZ.out; omega)
     have hK10 := hK9.set hbut10 (.inr (by have := HZ.out; omega)) (by have := h.bel.size; have := HZ.out; omega)
     have hy10' := hy9'.new hbut10 (by have := HZ.out; omega)
     obtain ⟨tf, htf⟩ : ∃ tf, tf = ({ Told.zero with g0 := xb, g1 := yb, e := ee } : Told).vs := ⟨_, rfl⟩
     have HTF : Hid (tf = _) := htf
     have hTFl : tf.length = 40 := by rw [htf]; exact Told.vs_len Pt.zero_ok
     have hTFo : ∀ v ∈ tf, v.oneCell' = true := by rw [htf]; exact Told.vs_one _
     have hTF := hT10
     rw [← htf] at hTF
     have hRF := hR10
     have hKF := hK10
     have hyF := hy10'
     clear htf)
  | ((with_reducible show wpList _ _ _ (Oper.mk _ (Op.load 49 _) _ _ _ _ :: _) _ _); refine wpList_load_blk (by rfl) (.tmp 9) 49 (by rfl) _ 0 40 (by rfl) agg_told size_told hTF _ (whole_load hTFl) hTFl ?_)
  | ((with_reducible show wpList _ _ _ (Oper.mk _ (Op.store 49 (.tmp 8) _) _ _ _ _ :: _) _ _); refine wpList_store_blk (by rfl) (.tmp 8) (.tmp 113) 49 (by rfl) _ 0 40 (by rfl) tf (by rfl) size_told hRF hTFl (by omega) hTFo _ (whole_store hzl) ?_
     intro wZ hRZ hbutZ hsZ))
 refine bodyPost_ret_blk rfl rfl (by rfl) agg_told size_told hRZ hTFl ⟨by rw [HTF.out], (hKF.set hbutZ (.inr (by have := HZ.out; omega)) (by have := h.bel.size; have := HZ.out; omega)).less (fun j hj => .inl hj), hyF.new hbutZ (by have := HZ.out; omega)⟩
end
end Go.Proofs.YthbldjnpnligpaaDoor
