/-
 The laws' function do: Put and Fix.
-/
import Derived.Test.YthbldjnpnligpaaDoorB06
import Derived.Test.YthbldjnpnligpaaDoorB46
import Derived.Test.YthbldjnpnligpaaDoorB37
import Derived.Test.YthbldjnpnligpaaDoorB34
import Derived.Test.YthbldjnpnligpaaDoorB27
import Derived.Test.YthbldjnpnligpaaDoorB41
import Derived.Test.YthbldjnpnligpaaDoorB43
import Derived.Test.YthbldjnpnligpaaDoorB44
import Derived.Test.YthbldjnpnligpaaDoorB45
import Derived.Test.YthbldjnpnligpaaDoorB11
import Derived.Test.YthbldjnpnligpaaDoorB14
namespace Go.Proofs.YthbldjnpnligpaaDoor
set_option linter.unusedSimpArgs false
set_option linter.unusedVariables false
set_option maxRecDepth 100000
open Go.RowKit
theorem wpList_ext {P : Program} {w : World} {ops : Array Oper} {rest : List Oper} {o : Oper} {a : Act} {Q : Exit → Act → World → Prop} (hw : Region.wanted o (yielded ops a.tmps) = true) (x : Operand) (i : Nat) (ho : o.op = Op.extract x i) (vs : Array Value) (hx : a.eval x = .tuple vs) (V : Value) (hV : vs[i]? = some V)
 (h : wpList P ops Q rest (a.put o.dst V) w) : wpList P ops Q (o :: rest) a w := by
 refine wpList_step fun K hK => ?_
 rw [if_pos hw]
 have e : (execOp a.eval o).run P w = .ok (.value V) w := by
  unfold execOp
  simp only [ho, hx, Instr.extract, hV, Sem.run_bind, Sem.run_pure, Result.andThen_ok]
 unfold Oper.wp
 rw [e]
 exact hK _ _ h
theorem putK_ok {w0 w : World} {M : Nat → Prop} {k p g : Nat} {S : DS} {l : List Bool} (h : BS w0 w M k p g S l 7) (b : List Int) (c : Int) : (putK S l 7 b c).2.1.ok := by
 have hr := takeL_rng l c h.mp.hi
 unfold putK
 repeat' split
 all_goals first | exact Pt.zero_ok | skip
 have hg : ∀ i, (takeL l c).2.1.getD i 0 < 4294967296 := fun i => by
  by_cases hi : i < (takeL l c).2.1.length
  · exact hr _ (by simp [List.getD, hi])
  · rw [List.getD_eq_getElem?_getD, List.getElem?_eq_none (by omega)]; simp
 exact ⟨shaOf_length _, shaOf_rng _, by show (7 : Nat) < _; omega, hg 0, hg 1⟩
section
variable {w0 w : World} {M : Nat → Prop} {k p g : Nat} {S : DS} {l : List Bool}
set_option maxHeartbeats 40000000 in
theorem do_fix (h : BS w0 w M k p g S l 7) (hV : Vars w0) (hln : S.ws.length ≤ 700000) (x : ActK) (hx : ActKOk w0 x) (hxl : x.bs.length ≤ 300) (q : Pt) (hq : q.ok) (hk : x.kind = 5) :
 Calls Tryd.prog 12 #[.pointer (some ⟨k, 0, none⟩), .pointer (some ⟨p, 0, none⟩), .agg x.cells.toArray, .agg q.vs.toArray] w fun e w' => e = .returned (.agg ({ Told.zero with n := (fixK S q x.blk).1.2, e := (fixK S q x.blk).2 } : Told).vs.toArray) ∧ BS w0 w' M k p g (fixK S q x.blk).1.1 l 7 ∧ Stay M w w' := by
 have hbll := ActK.blk_len hxl
 obtain ⟨bl, hbl⟩ : ∃ bl, bl = x.blk.length := ⟨_, rfl⟩
 have HBL : Hid (bl = x.blk.length) := hbl
 have HX : Hid (x.cells[0]? = some (.int .i64 5) ∧ x.cells[1]? = some (.int .i64 x.copies) ∧ x.cells[3]? = some (.int .i64 x.at') ∧ x.cells[39]? = some (.slice x.ba x.bs.length x.bc)) := ⟨by rw [← hk]; exact (ActK.cells_at hx.p).1, (ActK.cells_at hx.p).2.1, (ActK.cells_at hx.p).2.2.2.1, (ActK.cells_at hx.p).2.2.2.2⟩
 have HAL : Hid (∀ w : World, (Instr.alloc 49 true (.tuple #[])).run Tryd.prog w = .ok (.pointer (some ⟨w.heap.size, 0, none⟩)) (w.alloc (.cells Told.zero.vs.toArray 49))) := alloc_told
 have HBU : Hid (∀ w : World, (Instr.build 49 #[]).run Tryd.prog w = .ok (.agg Told.zero.vs.toArray) w) := build_told
 have hzl : Told.zero.vs.length = 40 := Told.vs_len Pt.zero_ok
 have hzo : ∀ v ∈ Told.zero.vs, v.oneCell' = true := Told.vs_one _
 have hvl : q.vs.length = 35 := Pt.vs_len hq
 have hal : x.cells.length = 40 := ActK.cells_len hx.p
 obtain ⟨tz, htz⟩ : ∃ tz, tz = Told.zero.vs := ⟨_, rfl⟩
 have HTZ : Hid (tz = Told.zero.vs) := htz
 obtain ⟨av, hav⟩ : ∃ av, av = x.cells := ⟨_, rfl⟩
 have HAV : Hid (av = x.cells) := hav
 obtain ⟨vs, hvs⟩ : ∃ vs, vs = q.vs := ⟨_, rfl⟩
 have HVS : Hid (vs = q.vs) := hvs
 rw [← htz] at HAL HBU hzl hzo
 rw [← hav] at HX hal ⊢
 rw [← hvs] at hvl ⊢
 have hbk : ∀ u, Below w.heap.size w u → Calls Tryd.prog 51 #[.agg av.toArray] u fun e w' => ∃ a c, e = .returned (.slice a bl c) ∧ Bs w' a c x.blk ∧ (∀ y, a = some y → (x.blk = x.bs ∧ x.ba = some y) ∨ u.heap.size ≤ y.block) ∧ Below u.heap.size u w' := fun u hu => by
  rw [HAV.out]; exact block_later x hx.p (hx.bs.stays h.bel) hxl bl HBL.out u hu
 have hfxc : ∀ u {N}, BS w0 u N k p g S l 7 → ∀ a c, Bs u a c x.blk → (x.blk ≠ [] → ∀ y, a = some y → N y.block ∨ y.block < w0.heap.size) → Calls Tryd.prog 55 #[.pointer (some ⟨k, 0, none⟩), .agg vs.toArray, .slice a x.blk.length c] u fun e w' => e = .returned (.tuple #[.int .i64 ((fixK S q x.blk).1.2 : Int), .int .i64 (fixK S q x.blk).2]) ∧ BS w0 w' N k p g (fixK S q x.blk).1.1 l 7 ∧ Stay N u w' := fun u N hu a c hb hn => by rw [HVS.out]; exact bs_fix hu hV (by omega) q hq a c x.blk hb hn
 obtain ⟨nn, hnn⟩ : ∃ nn, nn = (fixK S q x.blk).1.2 := ⟨_, rfl⟩
 obtain ⟨ee, hee⟩ : ∃ ee, ee = (fixK S q x.blk).2 := ⟨_, rfl⟩
 obtain ⟨SS, hSS⟩ : ∃ SS, SS = (fixK S q x.blk).1.1 := ⟨_, rfl⟩
 rw [← hnn, ← hee, ← hSS] at hfxc ⊢
 clear hnn hee hSS
 clear htz hav hvs hk hbl
 go_enter Tryd.func12, Tryd.ntmps12
 go_wp2_with (first
  | ((with_reducible show wpList _ _ _ (Oper.mk _ (Op.box 45 _) _ _ _ _ :: _) _ _); refine wpList_box0 (by rfl) 45 (.tmp 2) (by rfl) av (by rfl) ?_; intro w1 hA1 hb1 hs1; clear hs1)
  | ((with_reducible show wpList _ _ _ (Oper.mk _ (Op.box 42 _) _ _ _ _ :: _) _ _); refine wpList_box0 (by rfl) 42 (.tmp 3) (by rfl) vs (by rfl) ?_; intro w2 hQ2 hb2 hs2; clear hs2)
  | ((with_reducible show wpList _ _ _ (Oper.mk (some 8) (Op.alloc 49) _ _ _ _ :: _) _ _); refine wpList_alloc0 (by rfl) 49 (by rfl) (some 8) (by rfl) _ HAL.out ?_; intro w3 hR3 hb3 hs3; clear hs3)
  | ((with_reducible show wpList _ _ _ (Oper.mk _ (Op.build 49 _) _ _ _ _ :: _) _ _); refine wpList_build0 (by rfl) 49 (by rfl) _ HBU.out ?_)
  | ((with_reducible show wpList _ _ _ (Oper.mk (some 9) (Op.alloc 49) _ _ _ _ :: _) _ _); refine wpList_alloc0 (by rfl) 49 (by rfl) (some 9) (by rfl) _ HAL.out ?_; intro w4 hT4 hb4 hs4
     clear hs4
     have hb14 := below_then (below_then (below_then hb1 hb2) hb3) hb4
     have hA4 := ((hA1.stays hb2).stays hb3).stays hb4
     have hQ4 := (hQ2.stays hb3).stays hb4
     have hR4 := hR3.stays hb4
     have hlt1 := hA1.lt
     have hlt2 := hQ2.lt
     have hlt3 := hR3.lt
     have hlt4 := hT4.lt
     have hz1 := hb1.size
     have hz2 := hb2.size
     have hz3 := hb3.size
     have hz4 := hb4.size
     have HZ : Hid (w.heap.size < w1.heap.size ∧ w1.heap.size < w2.heap.size ∧ w2.heap.size < w3.heap.size ∧ w3.heap.size < w4.heap.size) := by
      show _ ∧ _ ∧ _ ∧ _
      have e1 := hA1.lt
      have e2 := hQ2.lt
      have e3 := hR3.lt
      have e4 := hT4.lt
      omega
     have hK4 := h.new (N := fun j => M j ∨ (w.heap.size ≤ j ∧ j < w4.heap.size)) hb14 (fun j hj => hj)
     clear hlt1 hlt2 hlt3 hlt4 hz1 hz2 hz3 hz4 hA1 hb1 hQ2 hb2 hR3 hb3 hb4)
  | ((with_reducible show wpList _ _ _ (Oper.mk _ (Op.store 49 (.tmp 9) _) _ _ _ _ :: _) _ _); refine wpList_store_blk (by rfl) (.tmp 9) (.tmp 20) 49 (by rfl) _ 0 40 (by rfl) tz (by rfl) size_told hT4 hzl (by omega) hzo _ (whole_store hzl) ?_
     intro w5 hT5 hbut5 hs5
     have hA5 := hA4.but hbut5 (by have := HZ.out; omega)
     have hQ5 := hQ4.but hbut5 (by have := HZ.out; omega)
     have hR5 := hR4.but hbut5 (by have := HZ.out; omega)
     have hK5 := hK4.set hbut5 (.inr (by have := HZ.out; omega)) (by have := h.bel.size; have := HZ.out; omega)
     have hy5 : Stay M w w5 := (Stay.of_below hb14).new hbut5 (by have := HZ.out; omega)
     rw [HTZ.out] at hT5
     have hc0 : w5.cell? ⟨w.heap.size, 0, none⟩ = some (.int .i64 5) := (hA5.cell 0).trans HX.out.1
     have HZ5 : Hid (w5.heap.size = w4.heap.size) := hs5
     have hb5W : Below w.heap.size w w5 := hb14.trans (hbut5.below (by have := HZ.out; omega) hb14.size)
     clear hs5 hK4 hA4 hQ4 hR4 hb14 hbut5 hT4
     have hc1 : w5.cell? ⟨w.heap.size, 1, none⟩ = some (.int .i64 x.copies) := (hA5.cell 1).trans HX.out.2.1))
 have hldA : ∀ u, Below w5.heap.size w5 u → (Instr.loadAt 45 (.pointer (some ⟨w.heap.size, 0, none⟩))).run Tryd.prog u = .ok (.agg av.toArray) u := fun u hu => run_load_blk agg_actK size_actK (hA5.stays hu) (whole_load hal) hal
 have hldQ : ∀ u, Below w5.heap.size w5 u → (Instr.loadAt 42 (.pointer (some ⟨w1.heap.size, 0, none⟩))).run Tryd.prog u = .ok (.agg vs.toArray) u := fun u hu => run_load_blk agg_ptr size_ptr (hQ5.stays hu) (whole_load hvl) hvl
 have hldc : ∀ u, Below w5.heap.size w5 u → u.cell? ⟨w.heap.size, 1, none⟩ = some (.int .i64 x.copies) := fun u hu => ((hA5.stays hu).cell 1).trans HX.out.2.1
 have hbk5 : ∀ u, Below w5.heap.size w5 u → Calls Tryd.prog 51 #[.agg av.toArray] u fun e w' => ∃ v, e = .returned v ∧ Below u.heap.size u w' ∧ akB w5.heap.size x v w' := fun u hu => (hbk u (hb5W.trans (hu.mono hb5W.size))).mono fun e w' ⟨a, c, h1, h2, h3, h4⟩ => ⟨_, h1, h4, a, c, by rw [← HBL.out], h2, fun y hy => (h3 y hy).imp id (Nat.le_trans hu.size)⟩
 refine UpT.wp_region_seq 4 [4, 5, 6, 7, 8, 9] (UpT.tell [(3, akB w5.heap.size x)]) (fun _ => false) (by kernel_rfl) (by kernel_rfl) (UpT.tell_steady _ (by
  intro p hp
  simp only [List.mem_cons, List.not_mem_nil, or_false] at hp
  rcases hp with rfl <;> first | exact isV_steady _ | exact slB_steady _ _ | exact akB_steady _ _)) ?_
 simp only [List.take_succ_cons, List.take_zero]
 refine UpT.wpUp_pu ?_
 simp only [Act.put, sTA, sT0, sT1]
 refine UpT.wpUp_pure (.agg vs.toArray) (by rfl) (by rfl) (fun wz hp => exec_load (by rfl) (by rfl) (hldQ wz hp.1)) ?_
 simp only [Act.put, sTA, sT0, sT1]
 refine UpT.wpUp_pure (.agg av.toArray) (by rfl) (by rfl) (fun wz hp => exec_load (by rfl) (by rfl) (hldA wz hp.1)) ?_
 simp only [Act.put, sTA, sT0, sT1]
 refine UpT.wpUp_call _ 51 #[.agg av.toArray] (by rfl) (by rfl) (by rfl) (fun wz => by go_simp) (fun wz hp => hbk5 wz hp.1) ?_
 rintro v ⟨u, _, hf⟩
 obtain ⟨aB, cB, rfl, _⟩ := hf.of 3 v _ rfl rfl
 clear hf
 simp only [Act.put, sTA, sT0, sT1]
 refine UpT.wpUp_end ?_
 intro wB hbB hf
 obtain ⟨aB2, cB2, hEe, hBB, hNB⟩ := hf.of 3 _ _ rfl rfl
 cases hEe
 clear hf
 simp only [UpT.opsAt, List.filterMap_cons, List.filterMap_nil, List.getElem?_toArray, List.getElem?_cons_zero, List.getElem?_cons_succ]
 have hTB := hT5.stays hbB
 have hRB := hR5.stays hbB
 have hKB := hK5.new (N := fun j => M j ∨ (w.heap.size ≤ j ∧ j < wB.heap.size)) hbB (fun j hj => by
  rcases hj with h1 | h1
  · exact .inl (.inl h1)
  · rcases Nat.lt_or_ge j w5.heap.size with h2 | h2
    · exact .inl (.inr ⟨h1.1, by have := HZ5.out; omega⟩)
    · exact .inr ⟨h2, h1.2⟩)
 have hyB : Stay M w wB := hy5.trans (Stay.of_below hbB)
 have HZW : Hid (w4.heap.size ≤ wB.heap.size) := by show _ ≤ _; have := hbB.size; have := HZ5.out; omega
 have hnB : x.blk ≠ [] → ∀ y, aB = some y → (M y.block ∨ (w.heap.size ≤ y.block ∧ y.block < wB.heap.size)) ∨ y.block < w0.heap.size := fun h0 y hy => by
  rcases hNB y hy with h1 | h1
  · right
    exact hx.bs.lt (by rw [← h1.1]; exact h0) h1.2
  · exact .inl (.inr ⟨by have := hb5W.size; omega, hBB.lt h0 hy⟩)
 have hfx := hfxc _ hKB aB cB hBB hnB
 go_wp2_with (first
  | (go_at_call 55; go_must (refine hfx.mono ?_); rintro e w6 ⟨rfl, hK6, hy6⟩
     have hT6 := hy6.blk hTB (.inr (by have := HZ.out; have := hbB.size; have := hT5.lt; omega))
     have hR6 := hy6.blk hRB (.inr (by have := HZ.out; have := hbB.size; have := hT5.lt; omega))
     have hK6 := hK6.less (N := fun j => M j ∨ (w.heap.size ≤ j ∧ j < w4.heap.size)) (fun j hj => hj.imp id (fun e => ⟨e.1, by have := HZW.out; omega⟩))
     have hy6' : Stay M w w6 := hyB.trans (hy6.less (fun j hj => .inl hj))))
 dsimp only [midQ]
 go_wp2_with (first
  | ((with_reducible show wpList _ _ _ (Oper.mk _ (Op.store 3 (.tmp 86) _) _ _ _ _ :: _) _ _); refine wpList_store_one (by rfl) (.tmp 86) (.tmp 85) 3 (by rfl) _ 38 (by rfl) (.int .i64 (nn : Int)) (by rfl) rfl rfl size_int1 hT6 (by rw [Told.vs_len Pt.zero_ok]; omega) ?_
     intro w7 hT7 hbut7 hs7
     clear hs7
     rw [← Told.put_n Pt.zero_ok nn] at hT7
     have hR7 := hR6.but hbut7 (by have := HZ.out; omega)
     have hK7 := hK6.set hbut7 (.inr (by have := HZ.out; omega)) (by have := h.bel.size; have := HZ.out; omega)
     have hy7' := hy6'.new hbut7 (by have := HZ.out; omega))
  | ((with_reducible show wpList _ _ _ (Oper.mk _ (Op.store 47 (.tmp 88) _) _ _ _ _ :: _) _ _); refine wpList_store_one (by rfl) (.tmp 88) (.tmp 87) 47 (by rfl) _ 39 (by rfl) (.int .i64 ee) (by rfl) rfl rfl size_err1 hT7 (by rw [Told.vs_len (t := { Told.zero with n := nn }) Pt.zero_ok]; omega) ?_
     intro w8 hT8 hbut8 hs8
     clear hs8
     rw [← Told.put_e (t := { Told.zero with n := nn }) Pt.zero_ok ee] at hT8
     have hR8 := hR7.but hbut8 (by have := HZ.out; omega)
     have hK8 := hK7.set hbut8 (.inr (by have := HZ.out; omega)) (by have := h.bel.size; have := HZ.out; omega)
     have hy8' := hy7'.new hbut8 (by have := HZ.out; omega)
     obtain ⟨tf, htf⟩ : ∃ tf, tf = ({ Told.zero with n := nn, e := ee } : Told).vs := ⟨_, rfl⟩
     have HTF : Hid (tf = _) := htf
     have hTFl : tf.length = 40 := by rw [htf]; exact Told.vs_len Pt.zero_ok
     have hTFo : ∀ v ∈ tf, v.oneCell' = true := by rw [htf]; exact Told.vs_one _
     have hTF := hT8
     rw [← htf] at hTF
     have hRF := hR8
     have hKF := hK8
     have hyF := hy8'
     clear htf)
  | ((with_reducible show wpList _ _ _ (Oper.mk _ (Op.load 49 _) _ _ _ _ :: _) _ _); refine wpList_load_blk (by rfl) (.tmp 9) 49 (by rfl) _ 0 40 (by rfl) agg_told size_told hTF _ (whole_load hTFl) hTFl ?_)
  | ((with_reducible show wpList _ _ _ (Oper.mk _ (Op.store 49 (.tmp 8) _) _ _ _ _ :: _) _ _); refine wpList_store_blk (by rfl) (.tmp 8) (.tmp 113) 49 (by rfl) _ 0 40 (by rfl) tf (by rfl) size_told hRF hTFl (by omega) hTFo _ (whole_store hzl) ?_
     intro wZ hRZ hbutZ hsZ))
 refine bodyPost_ret_blk rfl rfl (by rfl) agg_told size_told hRZ hTFl ⟨by rw [HTF.out], (hKF.set hbutZ (.inr (by have := HZ.out; omega)) (by have := h.bel.size; have := HZ.out; omega)).less (fun j hj => .inl hj), hyF.new hbutZ (by have := HZ.out; omega)⟩
set_option maxHeartbeats 80000000 in
theorem do_put (h : BS w0 w M k p g S l 7) (hV : Vars w0) (hln : S.ws.length ≤ 700000) (x : ActK) (hx : ActKOk w0 x) (hxl : x.bs.length ≤ 300) (q : Pt) (hq : q.ok) (hk : x.kind = 1) :
 Calls Tryd.prog 12 #[.pointer (some ⟨k, 0, none⟩), .pointer (some ⟨p, 0, none⟩), .agg x.cells.toArray, .agg q.vs.toArray] w fun e w' => e = .returned (.agg ({ Told.zero with p := (putK S l 7 x.blk x.copies).2.1, e := (putK S l 7 x.blk x.copies).2.2 } : Told).vs.toArray) ∧ BS w0 w' M k p g (putK S l 7 x.blk x.copies).1.1 (putK S l 7 x.blk x.copies).1.2 7 ∧ Stay M w w' := by
 have hbll := ActK.blk_len hxl
 obtain ⟨bl, hbl⟩ : ∃ bl, bl = x.blk.length := ⟨_, rfl⟩
 have HBL : Hid (bl = x.blk.length) := hbl
 have HX : Hid (x.cells[0]? = some (.int .i64 1) ∧ x.cells[1]? = some (.int .i64 x.copies) ∧ x.cells[3]? = some (.int .i64 x.at') ∧ x.cells[39]? = some (.slice x.ba x.bs.length x.bc)) := ⟨by rw [← hk]; exact (ActK.cells_at hx.p).1, (ActK.cells_at hx.p).2.1, (ActK.cells_at hx.p).2.2.2.1, (ActK.cells_at hx.p).2.2.2.2⟩
 have HAL : Hid (∀ w : World, (Instr.alloc 49 true (.tuple #[])).run Tryd.prog w = .ok (.pointer (some ⟨w.heap.size, 0, none⟩)) (w.alloc (.cells Told.zero.vs.toArray 49))) := alloc_told
 have HBU : Hid (∀ w : World, (Instr.build 49 #[]).run Tryd.prog w = .ok (.agg Told.zero.vs.toArray) w) := build_told
 have hzl : Told.zero.vs.length = 40 := Told.vs_len Pt.zero_ok
 have hzo : ∀ v ∈ Told.zero.vs, v.oneCell' = true := Told.vs_one _
 have hvl : q.vs.length = 35 := Pt.vs_len hq
 have hal : x.cells.length = 40 := ActK.cells_len hx.p
 obtain ⟨tz, htz⟩ : ∃ tz, tz = Told.zero.vs := ⟨_, rfl⟩
 have HTZ : Hid (tz = Told.zero.vs) := htz
 obtain ⟨av, hav⟩ : ∃ av, av = x.cells := ⟨_, rfl⟩
 have HAV : Hid (av = x.cells) := hav
 obtain ⟨vs, hvs⟩ : ∃ vs, vs = q.vs := ⟨_, rfl⟩
 have HVS : Hid (vs = q.vs) := hvs
 rw [← htz] at HAL HBU hzl hzo
 rw [← hav] at HX hal ⊢
 rw [← hvs] at hvl ⊢
 have hbk : ∀ u, Below w.heap.size w u → Calls Tryd.prog 51 #[.agg av.toArray] u fun e w' => ∃ a c, e = .returned (.slice a bl c) ∧ Bs w' a c x.blk ∧ (∀ y, a = some y → (x.blk = x.bs ∧ x.ba = some y) ∨ u.heap.size ≤ y.block) ∧ Below u.heap.size u w' := fun u hu => by
  rw [HAV.out]; exact block_later x hx.p (hx.bs.stays h.bel) hxl bl HBL.out u hu
 have hptc : ∀ u {N}, BS w0 u N k p g S l 7 → ∀ a c, Bs u a c x.blk → (x.blk ≠ [] → ∀ y, a = some y → N y.block ∨ y.block < w0.heap.size) → Calls Tryd.prog 50 #[.pointer (some ⟨k, 0, none⟩), .slice a x.blk.length c, .int .i64 x.copies] u fun e w' => e = .returned (.tuple #[.agg (putK S l 7 x.blk x.copies).2.1.vs.toArray, .int .i64 (putK S l 7 x.blk x.copies).2.2]) ∧ BS w0 w' N k p g (putK S l 7 x.blk x.copies).1.1 (putK S l 7 x.blk x.copies).1.2 7 ∧ Stay N u w' := fun u N hu a c hb hn => bs_put hu hV (by omega) a c x.blk hb hn x.copies
 have hpok : (putK S l 7 x.blk x.copies).2.1.ok := putK_ok h x.blk x.copies
 obtain ⟨pp, hpp⟩ : ∃ pp, pp = (putK S l 7 x.blk x.copies).2.1 := ⟨_, rfl⟩
 obtain ⟨ee, hee⟩ : ∃ ee, ee = (putK S l 7 x.blk x.copies).2.2 := ⟨_, rfl⟩
 obtain ⟨SS, hSS⟩ : ∃ SS, SS = (putK S l 7 x.blk x.copies).1.1 := ⟨_, rfl⟩
 obtain ⟨ll, hll⟩ : ∃ ll, ll = (putK S l 7 x.blk x.copies).1.2 := ⟨_, rfl⟩
 rw [← hpp, ← hee, ← hSS, ← hll] at hptc ⊢
 rw [← hpp] at hpok
 have hpl : pp.vs.length = 35 := Pt.vs_len hpok
 have hpo : ∀ v ∈ pp.vs, v.oneCell' = true := Pt.vs_one _
 have HALP : Hid (∀ w : World, (Instr.alloc 42 true (.tuple #[])).run Tryd.prog w = .ok (.pointer (some ⟨w.heap.size, 0, none⟩)) (w.alloc (.cells Pt.zero.vs.toArray 42))) := alloc_ptr0
 have hzpl : Pt.zero.vs.length = 35 := Pt.vs_len Pt.zero_ok
 obtain ⟨zp, hzp⟩ : ∃ zp, zp = Pt.zero.vs := ⟨_, rfl⟩
 rw [← hzp] at HALP hzpl
 have HPP : Hid (({ Told.zero with p := pp } : Told).vs = Told.zero.vs.take 0 ++ pp.vs ++ Told.zero.vs.drop (0 + 35)) := Told.put_p Pt.zero_ok hpok
 obtain ⟨pv, hpv⟩ : ∃ pv, pv = pp.vs := ⟨_, rfl⟩
 rw [← hpv] at hptc hpl hpo HPP
 clear hpp hee hSS hll hzp hpv
 clear htz hav hvs hk hbl
 go_enter Tryd.func12, Tryd.ntmps12
 go_wp2_with (first
  | ((with_reducible show wpList _ _ _ (Oper.mk _ (Op.box 45 _) _ _ _ _ :: _) _ _); refine wpList_box0 (by rfl) 45 (.tmp 2) (by rfl) av (by rfl) ?_; intro w1 hA1 hb1 hs1; clear hs1)
  | ((with_reducible show wpList _ _ _ (Oper.mk _ (Op.box 42 _) _ _ _ _ :: _) _ _); refine wpList_box0 (by rfl) 42 (.tmp 3) (by rfl) vs (by rfl) ?_; intro w2 hQ2 hb2 hs2; clear hs2)
  | ((with_reducible show wpList _ _ _ (Oper.mk (some 8) (Op.alloc 49) _ _ _ _ :: _) _ _); refine wpList_alloc0 (by rfl) 49 (by rfl) (some 8) (by rfl) _ HAL.out ?_; intro w3 hR3 hb3 hs3; clear hs3)
  | ((with_reducible show wpList _ _ _ (Oper.mk _ (Op.build 49 _) _ _ _ _ :: _) _ _); refine wpList_build0 (by rfl) 49 (by rfl) _ HBU.out ?_)
  | ((with_reducible show wpList _ _ _ (Oper.mk (some 9) (Op.alloc 49) _ _ _ _ :: _) _ _); refine wpList_alloc0 (by rfl) 49 (by rfl) (some 9) (by rfl) _ HAL.out ?_; intro w4 hT4 hb4 hs4
     clear hs4
     have hb14 := below_then (below_then (below_then hb1 hb2) hb3) hb4
     have hA4 := ((hA1.stays hb2).stays hb3).stays hb4
     have hQ4 := (hQ2.stays hb3).stays hb4
     have hR4 := hR3.stays hb4
     have hlt1 := hA1.lt
     have hlt2 := hQ2.lt
     have hlt3 := hR3.lt
     have hlt4 := hT4.lt
     have hz1 := hb1.size
     have hz2 := hb2.size
     have hz3 := hb3.size
     have hz4 := hb4.size
     have HZ : Hid (w.heap.size < w1.heap.size ∧ w1.heap.size < w2.heap.size ∧ w2.heap.size < w3.heap.size ∧ w3.heap.size < w4.heap.size) := by
      show _ ∧ _ ∧ _ ∧ _
      have e1 := hA1.lt
      have e2 := hQ2.lt
      have e3 := hR3.lt
      have e4 := hT4.lt
      omega
     have hK4 := h.new (N := fun j => M j ∨ (w.heap.size ≤ j ∧ j < w4.heap.size)) hb14 (fun j hj => hj)
     clear hlt1 hlt2 hlt3 hlt4 hz1 hz2 hz3 hz4 hA1 hb1 hQ2 hb2 hR3 hb3 hb4)
  | ((with_reducible show wpList _ _ _ (Oper.mk _ (Op.store 49 (.tmp 9) _) _ _ _ _ :: _) _ _); refine wpList_store_blk (by rfl) (.tmp 9) (.tmp 20) 49 (by rfl) _ 0 40 (by rfl) tz (by rfl) size_told hT4 hzl (by omega) hzo _ (whole_store hzl) ?_
     intro w5 hT5 hbut5 hs5
     have hA5 := hA4.but hbut5 (by have := HZ.out; omega)
     have hQ5 := hQ4.but hbut5 (by have := HZ.out; omega)
     have hR5 := hR4.but hbut5 (by have := HZ.out; omega)
     have hK5 := hK4.set hbut5 (.inr (by have := HZ.out; omega)) (by have := h.bel.size; have := HZ.out; omega)
     have hy5 : Stay M w w5 := (Stay.of_below hb14).new hbut5 (by have := HZ.out; omega)
     rw [HTZ.out] at hT5
     have hc0 : w5.cell? ⟨w.heap.size, 0, none⟩ = some (.int .i64 1) := (hA5.cell 0).trans HX.out.1
     have HZ5 : Hid (w5.heap.size = w4.heap.size) := hs5
     have hb5W : Below w.heap.size w w5 := hb14.trans (hbut5.below (by have := HZ.out; omega) hb14.size)
     clear hs5 hK4 hA4 hQ4 hR4 hb14 hbut5 hT4
     have hc1 : w5.cell? ⟨w.heap.size, 1, none⟩ = some (.int .i64 x.copies) := (hA5.cell 1).trans HX.out.2.1))
 have hldA : ∀ u, Below w5.heap.size w5 u → (Instr.loadAt 45 (.pointer (some ⟨w.heap.size, 0, none⟩))).run Tryd.prog u = .ok (.agg av.toArray) u := fun u hu => run_load_blk agg_actK size_actK (hA5.stays hu) (whole_load hal) hal
 have hldQ : ∀ u, Below w5.heap.size w5 u → (Instr.loadAt 42 (.pointer (some ⟨w1.heap.size, 0, none⟩))).run Tryd.prog u = .ok (.agg vs.toArray) u := fun u hu => run_load_blk agg_ptr size_ptr (hQ5.stays hu) (whole_load hvl) hvl
 have hldc : ∀ u, Below w5.heap.size w5 u → u.cell? ⟨w.heap.size, 1, none⟩ = some (.int .i64 x.copies) := fun u hu => ((hA5.stays hu).cell 1).trans HX.out.2.1
 have hbk5 : ∀ u, Below w5.heap.size w5 u → Calls Tryd.prog 51 #[.agg av.toArray] u fun e w' => ∃ v, e = .returned v ∧ Below u.heap.size u w' ∧ akB w5.heap.size x v w' := fun u hu => (hbk u (hb5W.trans (hu.mono hb5W.size))).mono fun e w' ⟨a, c, h1, h2, h3, h4⟩ => ⟨_, h1, h4, a, c, by rw [← HBL.out], h2, fun y hy => (h3 y hy).imp id (Nat.le_trans hu.size)⟩
 refine UpT.wp_region_opt 5 9 [6, 7, 8, 9, 10, 11] [6, 7, 8, 10, 11] (by rfl) (UpT.tell [(2, akB w5.heap.size x), (9, blkT 42 w5.heap.size zp)]) (fun i => i == 9) (by kernel_rfl) (by kernel_rfl) (UpT.tell_steady _ (by
  intro p hp
  simp only [List.mem_cons, List.not_mem_nil, or_false] at hp
  rcases hp with rfl | rfl <;> first | exact isV_steady _ | exact slB_steady _ _ | exact akB_steady _ _ | exact blkT_steady _ _ _)) ?_
 simp only [List.take_succ_cons, List.take_zero]
 refine UpT.wpUp_pu ?_
 simp only [Act.put, sTA, sT0, sT1]
 refine UpT.wpUp_pure (.agg av.toArray) (by rfl) (by rfl) (fun wz hp => exec_load (by rfl) (by rfl) (hldA wz hp.1)) ?_
 simp only [Act.put, sTA, sT0, sT1]
 refine UpT.wpUp_call _ 51 #[.agg av.toArray] (by rfl) (by rfl) (by rfl) (fun wz => by go_simp) (fun wz hp => hbk5 wz hp.1) ?_
 rintro v ⟨u, _, hf⟩
 obtain ⟨aB, cB, rfl, _⟩ := hf.of 2 v _ rfl rfl
 clear hf
 simp only [Act.put, sTA, sT0, sT1]
 refine UpT.wpUp_pu ?_
 simp only [Act.put, sTA, sT0, sT1]
 apply UpT.wpUp_pure
 case hw => rfl
 case hψ => rfl
 case hv => (intro wz hp; have hcc := hldc wz hp.1; clear hp; go_simp; try (with_reducible rfl))
 simp only [Act.put, sTA, sT0, sT1]
 refine UpT.wpUp_end ⟨?_, ?_⟩
 · intro wB hbB hf
   obtain ⟨aB2, cB2, hEe, hBB, hNB⟩ := hf.of 2 _ _ rfl rfl
   cases hEe
   clear hf
   simp only [UpT.opsAt, List.filterMap_cons, List.filterMap_nil, List.getElem?_toArray, List.getElem?_cons_zero, List.getElem?_cons_succ]
   have hTB := hT5.stays hbB
   have hRB := hR5.stays hbB
   have hKB := hK5.new (N := fun j => M j ∨ (w.heap.size ≤ j ∧ j < wB.heap.size)) hbB (fun j hj => by
    rcases hj with h1 | h1
    · exact .inl (.inl h1)
    · rcases Nat.lt_or_ge j w5.heap.size with h2 | h2
      · exact .inl (.inr ⟨h1.1, by have := HZ5.out; omega⟩)
      · exact .inr ⟨h2, h1.2⟩)
   have hyB : Stay M w wB := hy5.trans (Stay.of_below hbB)
   have HZW : Hid (w4.heap.size ≤ wB.heap.size) := by show _ ≤ _; have := hbB.size; have := HZ5.out; omega
   have hnB : x.blk ≠ [] → ∀ y, aB = some y → (M y.block ∨ (w.heap.size ≤ y.block ∧ y.block < wB.heap.size)) ∨ y.block < w0.heap.size := fun h0 y hy => by
    rcases hNB y hy with h1 | h1
    · right
      exact hx.bs.lt (by rw [← h1.1]; exact h0) h1.2
    · exact .inl (.inr ⟨by have := hb5W.size; omega, hBB.lt h0 hy⟩)
   have hpt := hptc _ hKB aB cB hBB hnB
   go_wp2_with (first
    | (go_at_call 50; go_must (refine hpt.mono ?_); rintro e w6 ⟨rfl, hK6, hy6⟩
       have hT6 := hy6.blk hTB (.inr (by have := HZ.out; have := hbB.size; have := hT5.lt; omega))
       have hR6 := hy6.blk hRB (.inr (by have := HZ.out; have := hbB.size; have := hT5.lt; omega))
       have hK6 := hK6.less (N := fun j => M j ∨ (w.heap.size ≤ j ∧ j < w4.heap.size)) (fun j hj => hj.imp id (fun e => ⟨e.1, by have := HZW.out; omega⟩))
       have hy6' : Stay M w w6 := hyB.trans (hy6.less (fun j hj => .inl hj))
       dsimp only []
       apply_assumption
       go_step
       apply_assumption
       refine wpList_ext (by rfl) (.tmp 25) 0 (by rfl) #[.agg pv.toArray, .int .i64 ee] (by rfl) (.agg pv.toArray) (by rfl) ?_
       refine wpList_ext (by rfl) (.tmp 25) 1 (by rfl) #[.agg pv.toArray, .int .i64 ee] (by rfl) (.int .i64 ee) (by rfl) ?_
       refine wpList_alloc0 (by rfl) 42 (by rfl) (some 10) (by rfl) _ HALP.out ?_; intro w7 hG7 hb7 hs7
       have hlt6 : w3.heap.size < w6.heap.size := hT6.lt
       have HNE : Hid (w6.heap.size ≠ w3.heap.size ∧ w6.heap.size ≠ w2.heap.size ∧ w.heap.size ≤ w6.heap.size) := by
        show _ ∧ _ ∧ _
        have := HZ.out
        omega
       have hT7 := hT6.stays hb7
       have hR7 := hR6.stays hb7
       have hK7 := hK6.new (N := fun j => M j ∨ (w.heap.size ≤ j ∧ j < w4.heap.size) ∨ j = w6.heap.size) hb7 (fun j hj => by
        rcases hj with h1 | h1 | h1
        · exact .inl (.inl h1)
        · exact .inl (.inr h1)
        · exact .inr (by rw [h1]; exact ⟨Nat.le_refl _, by omega⟩))
       have hy7' : Stay M w w7 := hy6'.trans (Stay.of_below hb7)
       clear hs7 hlt6
       refine wpList_store_blk (by rfl) (.tmp 10) (.tmp 32) 42 (by rfl) _ 0 35 (by rfl) pv (by rfl) size_ptr hG7 hpl (by omega) hpo _ (whole_store hzpl) ?_
       intro w8 hG8 hbut8 hs8
       have hT8 := hT7.but hbut8 (Ne.symm HNE.out.1)
       have hR8 := hR7.but hbut8 (Ne.symm HNE.out.2.1)
       have hK8' := hK7.set hbut8 (.inr (.inr rfl)) (by have := h.bel.size; have := HNE.out; omega)
       have hK8 := hK8'.less (N := fun j => M j ∨ (w.heap.size ≤ j ∧ j < w4.heap.size)) (fun j hj => hj.imp id .inl)
       have hy8' : Stay M w w8 := hy7'.new hbut8 HNE.out.2.2
       clear hs8 hK8'))
   try dsimp only [midQ]
   go_wp2_with (first
    | ((with_reducible show wpList _ _ _ (Oper.mk _ (Op.load 42 (.tmp 10)) _ _ _ _ :: _) _ _); refine wpList_load_blk (by rfl) (.tmp 10) 42 (by rfl) _ 0 35 (by rfl) agg_ptr size_ptr hG8 _ (whole_load hpl) hpl ?_)
    | ((with_reducible show wpList _ _ _ (Oper.mk _ (Op.store 42 (.tmp 35) _) _ _ _ _ :: _) _ _); refine wpList_store_blk (by rfl) (.tmp 35) (.tmp 34) 42 (by rfl) _ 0 35 (by rfl) pv (by rfl) size_ptr hT8 hpl (by rw [Told.vs_len Pt.zero_ok]; omega) hpo _ HPP.out ?_
       intro w9 hT9 hbut9 hs9
       have hR9 := hR8.but hbut9 (by have := HZ.out; omega)
       have hK9 := hK8.set hbut9 (.inr (by have := HZ.out; omega)) (by have := h.bel.size; have := HZ.out; omega)
       have hy9' := hy8'.new hbut9 (by have := HZ.out; omega)
       clear hs9)
    | ((with_reducible show wpList _ _ _ (Oper.mk _ (Op.store 47 (.tmp 37) _) _ _ _ _ :: _) _ _); refine wpList_store_one (by rfl) (.tmp 37) (.tmp 36) 47 (by rfl) _ 39 (by rfl) (.int .i64 ee) (by rfl) rfl rfl size_err1 hT9 (by rw [Told.vs_len (t := { Told.zero with p := pp }) hpok]; omega) ?_
       intro w10 hT10 hbut10 hs10
       clear hs10
       rw [← Told.put_e (t := { Told.zero with p := pp }) hpok ee] at hT10
       have hR10 := hR9.but hbut10 (by have := HZ.out; omega)
       have hK10 := hK9.set hbut10 (.inr (by have := HZ.out; omega)) (by have := h.bel.size; have := HZ.out; omega)
       have hy10' := hy9'.new hbut10 (by have := HZ.out; omega)
       obtain ⟨tf, htf⟩ : ∃ tf, tf = ({ Told.zero with p := pp, e := ee } : Told).vs := ⟨_, rfl⟩
       have HTF : Hid (tf = _) := htf
       have hTFl : tf.length = 40 := by rw [htf]; exact Told.vs_len hpok
       have hTFo : ∀ v ∈ tf, v.oneCell' = true := by rw [htf]; exact Told.vs_one _
       have hTF := hT10
       rw [← htf] at hTF
       have hRF := hR10
       have hKF := hK10
       have hyF := hy10'
       clear htf)
    | ((with_reducible show wpList _ _ _ (Oper.mk _ (Op.load 49 _) _ _ _ _ :: _) _ _); refine wpList_load_blk (by rfl) (.tmp 9) 49 (by rfl) _ 0 40 (by rfl) agg_told size_told hTF _ (whole_load hTFl) hTFl ?_)
    | ((with_reducible show wpList _ _ _ (Oper.mk _ (Op.store 49 (.tmp 8) _) _ _ _ _ :: _) _ _); refine wpList_store_blk (by rfl) (.tmp 8) (.tmp 113) 49 (by rfl) _ 0 40 (by rfl) tf (by rfl) size_told hRF hTFl (by omega) hTFo _ (whole_store hzl) ?_
       intro wZ hRZ hbutZ hsZ))
   refine bodyPost_ret_blk rfl rfl (by rfl) agg_told size_told hRZ hTFl ⟨by rw [HTF.out], (hKF.set hbutZ (.inr (by have := HZ.out; omega)) (by have := h.bel.size; have := HZ.out; omega)).less (fun j hj => .inl hj), hyF.new hbutZ (by have := HZ.out; omega)⟩
 · refine (UpT.wpUp_make (blkT 42 w5.heap.size zp) (by rfl) (by rfl) (fun wz hp => ⟨.pointer (some ⟨wz.heap.size, 0, none⟩), wz.alloc (.cells zp.toArray 42), exec_alloc0 (by rfl) (HALP.out wz), (Below.refl _ _).alloc (Nat.le_refl _) _, ⟨_, rfl, hp.1.size, Blk.newAt rfl rfl⟩, fun _ => ⟨_, rfl, Nat.le_refl _, by simp⟩⟩) ?_).out
   rintro v ⟨u, _, hf⟩
   obtain ⟨gA, rfl, _, _⟩ := hf.of 9 v _ rfl rfl
   clear hf
   simp only [Act.put, sTA, sT0, sT1]
   refine UpT.wpUp_end ?_
   intro wB hbB hf
   obtain ⟨aB2, cB2, hEe, hBB, hNB⟩ := hf.of 2 _ _ rfl rfl
   cases hEe
   obtain ⟨gB, hgE, hgl, hGB⟩ := hf.of 9 _ _ rfl rfl
   cases hgE
   clear hf
   simp only [UpT.opsAt, List.filterMap_cons, List.filterMap_nil, List.getElem?_toArray, List.getElem?_cons_zero, List.getElem?_cons_succ]
   have hTB := hT5.stays hbB
   have hRB := hR5.stays hbB
   have hKB := hK5.new (N := fun j => M j ∨ (w.heap.size ≤ j ∧ j < wB.heap.size)) hbB (fun j hj => by
    rcases hj with h1 | h1
    · exact .inl (.inl h1)
    · rcases Nat.lt_or_ge j w5.heap.size with h2 | h2
      · exact .inl (.inr ⟨h1.1, by have := HZ5.out; omega⟩)
      · exact .inr ⟨h2, h1.2⟩)
   have hyB : Stay M w wB := hy5.trans (Stay.of_below hbB)
   have HZW : Hid (w4.heap.size ≤ wB.heap.size) := by show _ ≤ _; have := hbB.size; have := HZ5.out; omega
   have HNE : Hid (gA ≠ w3.heap.size ∧ gA ≠ w2.heap.size ∧ w.heap.size ≤ gA) := by
    show _ ∧ _ ∧ _
    have := HZ.out
    have := HZ5.out
    omega
   have hnB : x.blk ≠ [] → ∀ y, aB = some y → (M y.block ∨ (w.heap.size ≤ y.block ∧ y.block < wB.heap.size)) ∨ y.block < w0.heap.size := fun h0 y hy => by
    rcases hNB y hy with h1 | h1
    · right
      exact hx.bs.lt (by rw [← h1.1]; exact h0) h1.2
    · exact .inl (.inr ⟨by have := hb5W.size; omega, hBB.lt h0 hy⟩)
   have hpt := hptc _ hKB aB cB hBB hnB
   go_wp2_with (first
    | (go_at_call 50; go_must (refine hpt.mono ?_); rintro e w6 ⟨rfl, hK6, hy6⟩
       have hT6 := hy6.blk hTB (.inr (by have := HZ.out; have := hbB.size; have := hT5.lt; omega))
       have hR6 := hy6.blk hRB (.inr (by have := HZ.out; have := hbB.size; have := hT5.lt; omega))
       have hK7 := hK6.less (N := fun j => M j ∨ (w.heap.size ≤ j ∧ j < w4.heap.size) ∨ j = gA) (fun j hj => by
          rcases hj with h1 | h1 | h1
          · exact .inl h1
          · exact .inr ⟨h1.1, by have := HZW.out; omega⟩
          · exact .inr (by rw [h1]; exact ⟨by have := HNE.out; omega, hGB.lt⟩))
       have hK6 := hK6.less (N := fun j => M j ∨ (w.heap.size ≤ j ∧ j < w4.heap.size)) (fun j hj => hj.imp id (fun e => ⟨e.1, by have := HZW.out; omega⟩))
       have hy6' : Stay M w w6 := hyB.trans (hy6.less (fun j hj => .inl hj))
       have hG7 := hy6.blk hGB (.inr ⟨by have := HNE.out; omega, hGB.lt⟩)
       have hT7 := hT6
       have hR7 := hR6
       have hy7' := hy6'
       dsimp only []
       apply_assumption
       go_step
       apply_assumption
       refine wpList_ext (by rfl) (.tmp 25) 0 (by rfl) #[.agg pv.toArray, .int .i64 ee] (by rfl) (.agg pv.toArray) (by rfl) ?_
       refine wpList_ext (by rfl) (.tmp 25) 1 (by rfl) #[.agg pv.toArray, .int .i64 ee] (by rfl) (.int .i64 ee) (by rfl) ?_
       refine wpList_store_blk (by rfl) (.tmp 10) (.tmp 32) 42 (by rfl) _ 0 35 (by rfl) pv (by rfl) size_ptr hG7 hpl (by omega) hpo _ (whole_store hzpl) ?_
       intro w8 hG8 hbut8 hs8
       have hT8 := hT7.but hbut8 (Ne.symm HNE.out.1)
       have hR8 := hR7.but hbut8 (Ne.symm HNE.out.2.1)
       have hK8' := hK7.set hbut8 (.inr (.inr rfl)) (by have := h.bel.size; have := HNE.out; omega)
       have hK8 := hK8'.less (N := fun j => M j ∨ (w.heap.size ≤ j ∧ j < w4.heap.size)) (fun j hj => hj.imp id .inl)
       have hy8' : Stay M w w8 := hy7'.new hbut8 HNE.out.2.2
       clear hs8 hK8'))
   try dsimp only [midQ]
   go_wp2_with (first
    | ((with_reducible show wpList _ _ _ (Oper.mk _ (Op.load 42 (.tmp 10)) _ _ _ _ :: _) _ _); refine wpList_load_blk (by rfl) (.tmp 10) 42 (by rfl) _ 0 35 (by rfl) agg_ptr size_ptr hG8 _ (whole_load hpl) hpl ?_)
    | ((with_reducible show wpList _ _ _ (Oper.mk _ (Op.store 42 (.tmp 35) _) _ _ _ _ :: _) _ _); refine wpList_store_blk (by rfl) (.tmp 35) (.tmp 34) 42 (by rfl) _ 0 35 (by rfl) pv (by rfl) size_ptr hT8 hpl (by rw [Told.vs_len Pt.zero_ok]; omega) hpo _ HPP.out ?_
       intro w9 hT9 hbut9 hs9
       have hR9 := hR8.but hbut9 (by have := HZ.out; omega)
       have hK9 := hK8.set hbut9 (.inr (by have := HZ.out; omega)) (by have := h.bel.size; have := HZ.out; omega)
       have hy9' := hy8'.new hbut9 (by have := HZ.out; omega)
       clear hs9)
    | ((with_reducible show wpList _ _ _ (Oper.mk _ (Op.store 47 (.tmp 37) _) _ _ _ _ :: _) _ _); refine wpList_store_one (by rfl) (.tmp 37) (.tmp 36) 47 (by rfl) _ 39 (by rfl) (.int .i64 ee) (by rfl) rfl rfl size_err1 hT9 (by rw [Told.vs_len (t := { Told.zero with p := pp }) hpok]; omega) ?_
       intro w10 hT10 hbut10 hs10
       clear hs10
       rw [← Told.put_e (t := { Told.zero with p := pp }) hpok ee] at hT10
       have hR10 := hR9.but hbut10 (by have := HZ.out; omega)
       have hK10 := hK9.set hbut10 (.inr (by have := HZ.out; omega)) (by have := h.bel.size; have := HZ.out; omega)
       have hy10' := hy9'.new hbut10 (by have := HZ.out; omega)
       obtain ⟨tf, htf⟩ : ∃ tf, tf = ({ Told.zero with p := pp, e := ee } : Told).vs := ⟨_, rfl⟩
       have HTF : Hid (tf = _) := htf
       have hTFl : tf.length = 40 := by rw [htf]; exact Told.vs_len hpok
       have hTFo : ∀ v ∈ tf, v.oneCell' = true := by rw [htf]; exact Told.vs_one _
       have hTF := hT10
       rw [← htf] at hTF
       have hRF := hR10
       have hKF := hK10
       have hyF := hy10'
       clear htf)
    | ((with_reducible show wpList _ _ _ (Oper.mk _ (Op.load 49 _) _ _ _ _ :: _) _ _); refine wpList_load_blk (by rfl) (.tmp 9) 49 (by rfl) _ 0 40 (by rfl) agg_told size_told hTF _ (whole_load hTFl) hTFl ?_)
    | ((with_reducible show wpList _ _ _ (Oper.mk _ (Op.store 49 (.tmp 8) _) _ _ _ _ :: _) _ _); refine wpList_store_blk (by rfl) (.tmp 8) (.tmp 113) 49 (by rfl) _ 0 40 (by rfl) tf (by rfl) size_told hRF hTFl (by omega) hTFo _ (whole_store hzl) ?_
       intro wZ hRZ hbutZ hsZ))
   refine bodyPost_ret_blk rfl rfl (by rfl) agg_told size_told hRZ hTFl ⟨by rw [HTF.out], (hKF.set hbutZ (.inr (by have := HZ.out; omega)) (by have := h.bel.size; have := HZ.out; omega)).less (fun j hj => .inl hj), hyF.new hbutZ (by have := HZ.out; omega)⟩
theorem do_run (h : BS w0 w M k p g S l 7) (hV : Vars w0) (hln : S.ws.length ≤ 700000) (x : ActK) (hx : ActKOk w0 x) (hxl : x.bs.length ≤ 300) (q : Pt) (hq : q.ok) :
 Calls Tryd.prog 12 #[.pointer (some ⟨k, 0, none⟩), .pointer (some ⟨p, 0, none⟩), .agg x.cells.toArray, .agg q.vs.toArray] w fun e w' => e = .returned (.agg (doK S l x q).2.vs.toArray) ∧ BS w0 w' M k p g (doK S l x q).1.1 (doK S l x q).1.2 7 ∧ Stay M w w' := by
 unfold doK
 by_cases h1 : x.kind = 1
 · rw [if_pos h1]; exact do_put h hV hln x hx hxl q hq h1
 rw [if_neg h1]
 by_cases h2 : x.kind = 2
 · rw [if_pos h2]; exact do_read h hV hln x hx hxl q hq h2
 rw [if_neg h2]
 by_cases h3 : x.kind = 3
 · rw [if_pos h3]; exact do_look h hV hln x hx hxl q hq h3
 rw [if_neg h3]
 by_cases h4 : x.kind = 4
 · rw [if_pos h4]; exact do_heal h hV hln x hx hxl q hq h4
 rw [if_neg h4]
 by_cases h5 : x.kind = 5
 · rw [if_pos h5]; exact do_fix h hV hln x hx hxl q hq h5
 rw [if_neg h5]
 by_cases h6 : x.kind = 6
 · rw [if_pos h6]; exact do_rot h hV hln x hx hxl q hq h6
 rw [if_neg h6]
 by_cases h7 : x.kind = 7
 · rw [if_pos h7]; exact do_fuse h hV hln x hx hxl q hq h7
 rw [if_neg h7]
 by_cases h8 : x.kind = 8
 · rw [if_pos h8]; exact do_crash h hV hln x hx hxl q hq h8
 rw [if_neg h8]
 by_cases h9 : x.kind = 9
 · rw [if_pos h9]; exact do_flush h hV hln x hx hxl q hq h9
 rw [if_neg h9]
 exact do_none h hV hln x hx hxl q hq ⟨h1, h2, h3, h4, h5, h6, h7, h8, h9⟩
end
end Go.Proofs.YthbldjnpnligpaaDoor

/-
 What the law BankNever asks of the pure side, and of single operations.
-/

namespace Go.Proofs.YthbldjnpnligpaaDoor
set_option linter.unusedSimpArgs false
set_option linter.unusedVariables false
set_option maxRecDepth 100000
open Go.RowKit
theorem doK_len (S : DS) (l : List Bool) (x : ActK) (q : Pt) : (doK S l x q).1.1.ws.length ≤ S.ws.length + 8 := by
 unfold doK
 repeat' split
 all_goals first
  | exact putK_len S l 7 _ _
  | exact Nat.le_trans (healK_len S q) (by omega)
  | exact Nat.le_trans (fixK_len S q _) (by omega)
  | exact Nat.le_trans (flush_len S) (by omega)
  | (unfold DS.rot; split <;> simp)
  | (show (S.fuse _).ws.length ≤ _; unfold DS.fuse; simp)
  | (show (S.crash _).ws.length ≤ _; unfold DS.crash; simp)
  | (show S.ws.length ≤ _; omega)
theorem index_slK {P : Program} {t e : TypeId} {b off n c j m : Nat} (ht : P.underlying t = some (.slice e)) (hs : (P.info? e).map (·.size) = some m) (hj : j < n) (w : World) :
 (Instr.indexAt t (.slice (some ⟨b, off, none⟩) n c) (.int .i64 (j : Int))).run P w = .ok (.pointer (some ⟨b, off + j * m, none⟩)) w := by
 have hz := sizeOf_run hs w
 have hb : (0 : Int) ≤ (j : Int) ∧ (j : Int) < (n : Int) := by omega
 have hadd : (⟨b, off, none⟩ : Addr).add (j * m) = ⟨b, off + j * m, none⟩ := by unfold Addr.add; split <;> simp_all
 simp [Instr.indexAt, asIntOf, run_underlying ht, hz, hb, hadd, Sem.run_bind, Instr.sureAddr]
 try omega
def zeroActK : List Value := (default : ActK).cells
theorem alloc_actK (w : World) : (Instr.alloc 45 true (.tuple #[])).run Tryd.prog w = .ok (.pointer (some ⟨w.heap.size, 0, none⟩)) (w.alloc (.cells zeroActK.toArray 45)) := by kernel_rfl
theorem zeroActK_len : zeroActK.length = 40 := ActK.cells_len Pt.zero_ok
theorem Plist.cells {base : Nat} {w : World} {ps : List Pt} {b n c i : Nat} (h : Plist base w (.slice (some ⟨b, 0, none⟩) n c) ps) (hi : i < ps.length) : ∀ j, j < 35 → w.cell? ⟨b, i * 35 + j, none⟩ = (ps.getD i default).vs[j]? := by
 obtain ⟨b', c', hv, _, hc, _⟩ := h.at hi
 have e : b = b' := by
  simp only [Value.slice.injEq, Option.some.injEq, Addr.mk.injEq] at hv
  exact hv.1.1
 subst e
 exact hc
end Go.Proofs.YthbldjnpnligpaaDoor

/-
 Both banks of the law BankPlays beside the list of pointers and what else the law holds.
-/

namespace Go.Proofs.YthbldjnpnligpaaDoor
set_option linter.unusedSimpArgs false
set_option linter.unusedVariables false
set_option maxRecDepth 100000
open Go.RowKit
section
variable {w w' : World} {G : Nat → Prop} {cs : List Value} {S : DS} {l : List Bool}
theorem mbytes_bs {g : Nat} {l : List Bool} (u : World) (hu : Mp u g l) : Calls Tryd.prog 18 #[.pointer (some ⟨g, 0, none⟩)] u fun e w' => ∃ a c, e = .returned (.slice a 64 c) ∧ Bs w' a c (bytesM l) ∧ Below u.heap.size u w' := by
 refine (bytes_run u hu).mono ?_
 rintro e w' ⟨h1, h2, h3⟩
 have hB := h2.bs (bytesL_rng l) (by rw [bytesL_len]; decide)
 rw [bytesL_len] at hB
 exact ⟨_, 64, h1, hB, h3⟩
theorem model_run {W : World} (h : RB w G cs S l 7) (hln : S.ws.length ≤ 700000) (x : ActK) (hx : ActKOk W x) (hxB : Bs w x.ba x.bc x.bs) (hxl : x.bs.length ≤ 300) (q : Pt) (hq : q.ok) :
 Calls Tryd.prog 13 #[.agg cs.toArray, .agg x.cells.toArray, .agg q.vs.toArray] w fun e w' => ∃ cs', e = .returned (.tuple #[.agg cs'.toArray, .agg (doK S l x q).2.vs.toArray]) ∧ RBThen G w w' cs' (doK S l x q).1.1 (doK S l x q).1.2 7 := by
 unfold doK
 by_cases h1 : x.kind = 1
 · rw [if_pos h1]; exact mod_put h hln x hx.p hxB hxl q hq h1
 rw [if_neg h1]
 by_cases h2 : x.kind = 2
 · rw [if_pos h2]; exact mod_read h hln x hx.p hxB hxl q hq h2
 rw [if_neg h2]
 by_cases h3 : x.kind = 3
 · rw [if_pos h3]; exact mod_look h hln x hx.p hxB hxl q hq h3
 rw [if_neg h3]
 by_cases h4 : x.kind = 4
 · rw [if_pos h4]; exact mod_heal h hln x hx.p hxB hxl q hq h4
 rw [if_neg h4]
 by_cases h5 : x.kind = 5
 · rw [if_pos h5]; exact mod_fix h hln x hx.p hxB hxl q hq h5
 rw [if_neg h5]
 by_cases h6 : x.kind = 6
 · rw [if_pos h6]; exact mod_rot h hln x hx.p hxB hxl q hq h6
 rw [if_neg h6]
 by_cases h7 : x.kind = 7
 · rw [if_pos h7]; exact mod_fuse h hln x hx.p hxB hxl q hq hx.at'.2 h7
 rw [if_neg h7]
 by_cases h8 : x.kind = 8
 · rw [if_pos h8]; exact mod_crash h hln x hx.p hxB hxl q hq h8
 rw [if_neg h8]
 by_cases h9 : x.kind = 9
 · rw [if_pos h9]; exact mod_flush h hln x hx.p hxB hxl q hq h9
 rw [if_neg h9]
 exact mod_none h hln x hx.p hxB hxl q hq x.kind (by omega) rfl
end
def QS (w0 w : World) (N : Nat → Prop) (v : Value) (ps : List Pt) (k p g : Nat) (S : DS) (l : List Bool) (cs : List Value) (T : DS) (r : List Bool) : Prop :=
 ∃ H, BS w0 w (fun j => N j ∨ rowOf v j ∨ H j) k p g S l 7 ∧ RB w H cs T r 7 ∧ Plist w0.heap.size w v ps ∧ (∀ j, H j → j < w.heap.size ∧ ¬ rowOf v j) ∧ (∀ j, N j → ¬ H j ∧ ¬ rowOf v j ∧ w0.heap.size ≤ j)
section
variable {w0 w w' : World} {N N' : Nat → Prop} {v : Value} {ps : List Pt} {k p g : Nat} {S : DS} {l : List Bool} {cs : List Value} {T : DS} {r : List Bool}
theorem QS.bs (h : QS w0 w N v ps k p g S l cs T r) : ∃ M, BS w0 w M k p g S l 7 := by obtain ⟨H, h1, _⟩ := h; exact ⟨_, h1⟩
theorem QS.rb (h : QS w0 w N v ps k p g S l cs T r) : ∃ H, RB w H cs T r 7 := by obtain ⟨H, _, h2, _⟩ := h; exact ⟨H, h2⟩
theorem QS.pl (h : QS w0 w N v ps k p g S l cs T r) : Plist w0.heap.size w v ps := by obtain ⟨H, _, _, h3, _⟩ := h; exact h3
theorem QS.bel (h : QS w0 w N v ps k p g S l cs T r) : Below w0.heap.size w0 w := by obtain ⟨M, h1⟩ := h.bs; exact h1.bel
theorem QS.less (h : QS w0 w N v ps k p g S l cs T r) (hn : ∀ j, N' j → N j) : QS w0 w N' v ps k p g S l cs T r := by
 obtain ⟨H, h1, h2, h3, h4, h5⟩ := h
 exact ⟨H, h1.less (fun j hj => hj.imp (hn j) id), h2, h3, h4, fun j hj => h5 j (hn j hj)⟩
theorem QS.new (h : QS w0 w N v ps k p g S l cs T r) (hb : Below w.heap.size w w') (hN : ∀ j, N' j → N j ∨ (w.heap.size ≤ j ∧ j < w'.heap.size)) : QS w0 w' N' v ps k p g S l cs T r := by
 obtain ⟨H, h1, h2, h3, h4, h5⟩ := h
 refine ⟨H, h1.new hb (fun j hj => ?_), h2.stays hb, h3.stays hb, fun j hj => ⟨Nat.lt_of_lt_of_le (h4 j hj).1 hb.size, (h4 j hj).2⟩, fun j hj => ?_⟩
 · rcases hj with hj | hj
   · exact (hN j hj).imp .inl id
   · exact .inl (.inr hj)
 · rcases hN j hj with h6 | h6
   · exact h5 j h6
   · exact ⟨fun hh => by have := (h4 j hh).1; omega, fun hh => by have := (h3.lt hh).2; omega, by have := h1.bel.size; omega⟩
theorem QS.stays (h : QS w0 w N v ps k p g S l cs T r) (hb : Below w.heap.size w w') : QS w0 w' N v ps k p g S l cs T r := h.new hb (fun j hj => .inl hj)
theorem QS.set {m : Nat} (h : QS w0 w N v ps k p g S l cs T r) (hb : But m w w') (hm : N m) : QS w0 w' N v ps k p g S l cs T r := by
 obtain ⟨H, h1, h2, h3, h4, h5⟩ := h
 obtain ⟨n1, n2, n3⟩ := h5 m hm
 exact ⟨H, h1.set hb (.inl hm) n3, h2.keep (fun j hj hl => ⟨hb.block j (fun e => n1 (e ▸ hj)) hl, hj⟩), h3.but hb n2, fun j hj => ⟨Nat.lt_of_lt_of_le (h4 j hj).1 hb.size, (h4 j hj).2⟩, h5⟩
theorem qs_do (h : QS w0 w N v ps k p g S l cs T r) (hV : Vars w0) (hln : S.ws.length ≤ 700000) (x : ActK) (hx : ActKOk w0 x) (hxl : x.bs.length ≤ 300) (q : Pt) (hq : q.ok) :
 Calls Tryd.prog 12 #[.pointer (some ⟨k, 0, none⟩), .pointer (some ⟨p, 0, none⟩), .agg x.cells.toArray, .agg q.vs.toArray] w fun e w' => e = .returned (.agg (doK S l x q).2.vs.toArray) ∧ QS w0 w' N v ps k p g (doK S l x q).1.1 (doK S l x q).1.2 cs T r ∧ Stay N w w' := by
 obtain ⟨H, h1, h2, h3, h4, h5⟩ := h
 refine (do_run h1 hV hln x hx hxl q hq).mono ?_
 rintro e w' ⟨rfl, k1, hy⟩
 exact ⟨rfl, ⟨H, k1, h2.keep (fun j hj hl => ⟨hy.block j (.inr (.inr hj)) hl, hj⟩), h3.stay hy (fun j hj => .inr (.inl hj)), fun j hj => ⟨Nat.lt_of_lt_of_le (h4 j hj).1 hy.size, (h4 j hj).2⟩, h5⟩, hy.less (fun j hj => .inl hj)⟩
theorem qs_model (h : QS w0 w N v ps k p g S l cs T r) (hln : T.ws.length ≤ 700000) (x : ActK) (hx : ActKOk w0 x) (hxl : x.bs.length ≤ 300) (q : Pt) (hq : q.ok) :
 Calls Tryd.prog 13 #[.agg cs.toArray, .agg x.cells.toArray, .agg q.vs.toArray] w fun e w' => ∃ ds, e = .returned (.tuple #[.agg ds.toArray, .agg (doK T r x q).2.vs.toArray]) ∧ (ds.length = 7 ∧ ∀ v ∈ ds, v.oneCell' = true) ∧ Below w.heap.size w w' ∧ QS w0 w' N v ps k p g S l ds (doK T r x q).1.1 (doK T r x q).1.2 := by
 obtain ⟨H, h1, h2, h3, h4, h5⟩ := h
 refine (model_run h2 hln x hx (hx.bs.stays h1.bel) hxl q hq).mono ?_
 rintro e w' ⟨ds, rfl, hR, hb⟩
 refine ⟨ds, rfl, hR.len, hb, fun j => (H j ∨ w.heap.size ≤ j) ∧ j < w'.heap.size, h1.new hb (fun j hj => ?_), hR.keep (fun j hg hl => ⟨rfl, hg, hl⟩), h3.stays hb, fun j hj => ⟨hj.2, ?_⟩, fun j hj => ⟨?_, (h5 j hj).2⟩⟩
 · rcases hj with hj | hj | hj
   · exact .inl (.inl hj)
   · exact .inl (.inr (.inl hj))
   · rcases hj.1 with h6 | h6
     · exact .inl (.inr (.inr h6))
     · exact .inr ⟨h6, hj.2⟩
 · intro hr
   rcases hj.1 with h6 | h6
   · exact (h4 j h6).2 hr
   · have := (h3.lt hr).2; omega
 · rintro ⟨h6 | h6, _⟩
   · exact (h5 j hj).1 h6
   · have := h1.lt (.inl hj); omega
theorem QS.notrow (h : QS w0 w N v ps k p g S l cs T r) {m : Nat} (hm : N m) : ¬ rowOf v m := by obtain ⟨H, _, _, _, _, h5⟩ := h; exact (h5 m hm).2.1
theorem grown_blk {t : TypeId} {m : Nat} {vs : List Value} (h : Blk t w m vs) (hg : w.grownBy w' v.ownBlock) (hn : ¬ rowOf v m) : Blk t w' m vs := by
 have hl := h.lt
 unfold Blk at *
 rw [hg.block m hl (fun e => hn e.symm)]
 exact h
theorem QS.more {v' : Value} {q : Pt} (h : QS w0 w N v ps k p g S l cs T r) (hP : Plist w0.heap.size w' v' (ps ++ [q])) (hg : w.grownBy w' v.ownBlock) (hr : ∀ j, rowOf v' j → rowOf v j ∨ (w.heap.size ≤ j ∧ j < w'.heap.size)) : QS w0 w' N v' (ps ++ [q]) k p g S l cs T r := by
 obtain ⟨H, h1, h2, h3, h4, h5⟩ := h
 refine ⟨H, h1.grown hg (fun j hj => ⟨.inr (.inl hj), (h3.lt hj).1⟩) (fun j hj => ?_), h2.keep (fun j hj hl => ⟨hg.block j hl (fun e => (h4 j hj).2 e.symm), hj⟩), hP, fun j hj => ⟨Nat.lt_of_lt_of_le (h4 j hj).1 hg.size, fun hh => ?_⟩, fun j hj => ⟨(h5 j hj).1, fun hh => ?_, (h5 j hj).2.2⟩⟩
 · rcases hj with hj | hj | hj
   · exact .inl (.inl hj)
   · exact (hr j hj).imp (fun e => .inr (.inl e)) id
   · exact .inl (.inr (.inr hj))
 · rcases hr j hh with h6 | h6
   · exact (h4 j hj).2 h6
   · have := (h4 j hj).1; omega
 · rcases hr j hh with h6 | h6
   · exact (h5 j hj).2.1 h6
   · have := h1.lt (.inl hj); omega
theorem QS.start {w1 w2 w3 : World} {n : Nat} {gm b c : Nat} {rest : List Value} (hK : BS w0 w1 (fun _ => False) k p g S l 7) (hR : RB w2 (fun j => w1.heap.size ≤ j ∧ j < w2.heap.size) cs S l 7) (hb : Below w1.heap.size w1 w2) : QS w0 w2 (fun _ => False) (.slice none 0 0) [] k p g S l cs S l :=
 ⟨fun j => w1.heap.size ≤ j ∧ j < w2.heap.size, hK.new hb (fun j hj => by
  rcases hj with hj | hj | hj
  · exact hj.elim
  · simp [rowOf, Value.ownBlock] at hj
  · exact .inr hj), hR, ⟨fun p hp => (by cases hp), (by simp [ptrsV]), .inl ⟨rfl, rfl⟩⟩, fun j hj => ⟨hj.2, by simp [rowOf, Value.ownBlock]⟩, fun j hj => hj.elim⟩
theorem QS.empty {b : Nat} (h : QS w0 w N (.slice none 0 0) [] k p g S l cs T r) (hb : Below w.heap.size w w') (he : w.heap.size = b) (hP : Plist b w' (.slice (some ⟨b, 0, none⟩) 0 0) []) : QS w0 w' N (.slice (some ⟨b, 0, none⟩) 0 0) [] k p g S l cs T r := by
 obtain ⟨H, h1, h2, h3, h4, h5⟩ := h
 have hlt : b < w'.heap.size := (hP.lt (j := b) (by simp [rowOf, Value.ownBlock])).2
 have hrow : ∀ j, rowOf (.slice (some ⟨b, 0, none⟩) 0 0) j → j = b := fun j hj => by simpa [rowOf, Value.ownBlock] using hj.symm
 refine ⟨H, h1.new hb (fun j hj => ?_), h2.stays hb, ⟨hP.1, owns_mono hP.2 (by rw [← he]; exact h1.bel.size)⟩, fun j hj => ⟨Nat.lt_of_lt_of_le (h4 j hj).1 hb.size, fun hh => ?_⟩, fun j hj => ⟨(h5 j hj).1, fun hh => ?_, (h5 j hj).2.2⟩⟩
 · rcases hj with hj | hj | hj
   · exact .inl (.inl hj)
   · exact .inr (by rw [hrow j hj]; exact ⟨Nat.le_of_eq he, hlt⟩)
   · exact .inl (.inr (.inr hj))
 · have := hrow j hh
   have := (h4 j hj).1
   omega
 · have := hrow j hh
   have := h1.lt (.inl hj)
   omega
end
end Go.Proofs.YthbldjnpnligpaaDoor
