/-
 The document's bank: the law's model of Fix, by Sep.
-/
import Derived.Test.YthbldjnpnligpaaDoorB06
import Derived.Test.YthbldjnpnligpaaDoorB43
import Derived.Test.YthbldjnpnligpaaDoorB37
import Derived.Test.YthbldjnpnligpaaDoorB21
import Derived.Test.YthbldjnpnligpaaDoorB38
import Derived.Test.YthbldjnpnligpaaDoorB25
import Derived.Test.YthbldjnpnligpaaDoorB14
import Derived.Deep.CutRange
namespace Go.Proofs.YthbldjnpnligpaaDoor
set_option linter.unusedSimpArgs false
set_option linter.unusedVariables false
set_option maxRecDepth 100000
open Go.RowKit
section
variable {w w' : World} {G G' : Nat → Prop} {cs cs' : List Value} {S S' : DS} {l l' : List Bool} {t : Nat}
set_option maxHeartbeats 40000000 in
theorem mod_fix (h : RB w G cs S l 7) (hln : S.ws.length ≤ 700000) (x : ActK) (hx : x.p.ok) (hxB : Bs w x.ba x.bc x.bs) (hxl : x.bs.length ≤ 300) (q : Pt) (hq : q.ok) (hk : x.kind = 5) : Calls Tryd.prog 13 #[.agg cs.toArray, .agg x.cells.toArray, .agg q.vs.toArray] w fun e w' => ∃ cs', e = .returned (.tuple #[.agg cs'.toArray, .agg ({ Told.zero with n := (fixK S q x.blk).1.2, e := (fixK S q x.blk).2 } : Told).vs.toArray]) ∧ RBThen G w w' cs' (fixK S q x.blk).1.1 l 7 := by
 obtain ⟨av, pv, tz, zb, zd, dv, M⟩ := mod_pack h hx hq
 have hc0 := M.c0
 rw [hk] at hc0
 have HC0 : Hid _ := hc0
 have hs := h.sep
 obtain ⟨nb, hnb⟩ : ∃ nb, nb = x.blk.length := ⟨_, rfl⟩
 have HBK : Hid (∀ u, Below w.heap.size w u → Calls Tryd.prog 51 #[.agg av.toArray] u fun e w' => ∃ v, e = .returned v ∧ Below u.heap.size u w' ∧ slB nb x.blk v w') := fun u hu => by
  rw [← M.ae, hnb]
  exact calls_slB ((ablock_run x hx u (hxB.stays hu) hxl).mono fun e w' ⟨a, c, h1, h2, _, h3⟩ => ⟨a, c, h1, h2, h3⟩)
 have hfx : ∀ u N a c, RS w u G N [] cs S l 7 → Bs u a c x.blk → Calls Tryd.prog 62 #[.agg cs.toArray, .agg pv.toArray, .slice a nb c] u fun e w' => ∃ ds, e = .returned (.tuple #[.agg ds.toArray, .int .i64 ((fixK S q x.blk).1.2 : Int), .int .i64 (fixK S q x.blk).2]) ∧ Vals 7 ds ∧ Below u.heap.size u w' ∧ RS w w' G N [] ds (fixK S q x.blk).1.1 l 7 := fun u N a c hu hb => hu.bank_run (E := fun ds => .returned (.tuple #[.agg ds.toArray, .int .i64 ((fixK S q x.blk).1.2 : Int), .int .i64 (fixK S q x.blk).2])) (fun H hH => by rw [← M.pe, hnb]; exact rfix_run hH (by omega) q hq a c x.blk hb)
 obtain ⟨nn, hnn⟩ : ∃ nn, nn = (fixK S q x.blk).1.2 := ⟨_, rfl⟩
 obtain ⟨E, hE⟩ : ∃ E, E = (fixK S q x.blk).2 := ⟨_, rfl⟩
 obtain ⟨S1, hS1⟩ : ∃ S1, S1 = (fixK S q x.blk).1.1 := ⟨_, rfl⟩
 rw [← hnn, ← hE, ← hS1] at hfx
 rw [← hnn, ← hE, ← hS1]
 obtain ⟨t1, ht1⟩ : ∃ t1, t1 = (Told.mk Pt.zero [] false false nn 0).vs := ⟨_, rfl⟩
 obtain ⟨t2, ht2⟩ : ∃ t2, t2 = (Told.mk Pt.zero [] false false nn E).vs := ⟨_, rfl⟩
 have HW1 : Hid (t1 = tz.set 38 (.int .i64 (nn : Int))) := by show _ = _; rw [M.te, tz_mk, tv_n Pt.zero_ok, ht1]
 have HW2 : Hid (t2 = t1.set 39 (.int .i64 E)) := by show _ = _; rw [ht1, tv_e Pt.zero_ok, ht2]
 have HT2 : Hid (t2 = ({ Told.zero with n := nn, e := E } : Told).vs) := ht2
 have htv2 : Vals 40 t2 := by rw [ht2]; exact tvals Pt.zero_ok
 rw [M.ae, M.pe]
 clear h hq hx hxl hln hk hc0
 clear hnn hE hS1 ht1 ht2 hnb hxB
 go_enter Tryd.func13, Tryd.ntmps13
 go_wp2_with (first
  | (refine s_boxd 3 hs M.cv ?_; clear hs; intro w1 gK hs)
  | (refine s_boxd 4 hs M.va ?_; clear hs; intro w1 gA hs)
  | (refine s_box hs M.vp ?_; clear hs; intro w1 gP hs)
  | (refine s_ald 6 hs M.al ?_; clear hs; intro w1 gR hs)
  | (refine s_ald 7 hs M.at' ?_; clear hs; intro w1 gS hs)
  | (refine s_ald 8 hs M.at' ?_; clear hs; intro w1 gT hs)
  | (refine s_bld _ M.bt ?_)
  | (refine s_st hs M.zv ?_; clear hs; intro w1 hs)
  | (refine s_ld1 hs HC0.out ?_))
 try simp only [Act.put, sTA, sT0, sT1]
 go_cut [19, 20, 21] from 26 (fun p e1 e2 wx => ∃ (gH : Nat) (ds : List Value), p = .pointer (some ⟨gH, 0, none⟩) ∧ e1 = .int .i64 (nn : Int) ∧ e2 = .int .i64 E ∧ Vals 7 ds ∧ Sep w.heap.size (RI w G [] ds S1 l 7) wx (⟨gH, 36, 7, ds⟩ :: ⟨gT, 49, 40, tz⟩ :: ⟨gS, 49, 40, tz⟩ :: ⟨gR, 36, 7, zb⟩ :: ⟨gP, 42, 35, pv⟩ :: ⟨gA, 45, 40, av⟩ :: ⟨gK, 36, 7, cs⟩ :: []) [])
 case first =>
  refine UpT.wp_region_opt 4 9 [5, 6, 7, 8, 9, 10, 11, 12] [5, 6, 7, 8, 10, 11, 12] (by rfl) (UpT.tell [(3, slB nb x.blk), (9, blkT 36 w1.heap.size zb)]) (fun i => i == 9) (by kernel_rfl) (by kernel_rfl) (UpT.tell_steady _ (by
   intro p hp
   simp only [List.mem_cons, List.not_mem_nil, or_false] at hp
   rcases hp with rfl | rfl <;> first | exact isV_steady _ | exact slB_steady _ _ | exact blkT_steady _ _ _)) ?_
  simp only [List.take_succ_cons, List.take_zero]
  refine UpT.wpUp_pure (.agg cs.toArray) (by rfl) (by rfl) (fun wz hp => exec_load (by rfl) (by rfl) (hs.ld hp.1 ty_rbank (by repeat (first | exact List.Mem.head _ | apply List.Mem.tail)))) ?_
  simp only [Act.put, sTA, sT0, sT1]
  refine UpT.wpUp_pure (.agg pv.toArray) (by rfl) (by rfl) (fun wz hp => exec_load (by rfl) (by rfl) (hs.ld hp.1 ty_ptrz (by repeat (first | exact List.Mem.head _ | apply List.Mem.tail)))) ?_
  simp only [Act.put, sTA, sT0, sT1]
  refine UpT.wpUp_pure (.agg av.toArray) (by rfl) (by rfl) (fun wz hp => exec_load (by rfl) (by rfl) (hs.ld hp.1 ty_act (by repeat (first | exact List.Mem.head _ | apply List.Mem.tail)))) ?_
  simp only [Act.put, sTA, sT0, sT1]
  refine UpT.wpUp_call _ 51 #[.agg av.toArray] (by rfl) (by rfl) (by rfl) (fun wz => by go_simp) (fun wz hp => HBK.out wz (below_then hs.rbel hp.1)) ?_
  rintro v ⟨u, _, hf⟩
  obtain ⟨ba, bc, rfl, _⟩ := hf.of 3 v _ rfl rfl
  clear hf
  simp only [Act.put, sTA, sT0, sT1]
  refine UpT.wpUp_end ?_
  refine ⟨?_, ?_⟩
  · intro w4 hb4 hf
    have hbs := slB_bs (hf.of 3 _ _ rfl rfl)
    replace hs := hs.stays hb4
    clear hf hb4
    simp only [UpT.opsAt, List.filterMap_cons, List.filterMap_nil, List.getElem?_toArray, List.getElem?_cons_zero, List.getElem?_cons_succ, List.cons_append, List.nil_append]
    go_wp2_with (first
        | (go_at_call 62; go_must (refine (hfx _ _ _ _ hs.rs hbs).mono ?_); rintro e w5 ⟨ds, rfl, hd7, hb5, hR⟩; replace hs := hs.rturn hb5 hR; clear hb5 hR; dsimp only []; apply_assumption; refine wp_move1 rfl rfl (by rfl) ?_; simp only [Act.put, sTA, sT0, sT1]; refine wp_extract1 rfl rfl (by rfl) (by rfl) ?_; simp only [Act.put, sTA, sT0, sT1]; refine wp_extract1 rfl rfl (by rfl) (by rfl) ?_; simp only [Act.put, sTA, sT0, sT1]; refine wp_extract1 rfl rfl (by rfl) (by rfl) ?_; simp only [Act.put, sTA, sT0, sT1]; refine s_al hs M.al ?_; clear hs; intro w6 gH hs; simp only [Act.put, sTA, sT0, sT1]; refine s_st hs hd7 ?_; clear hs; intro w7 hs; simp only [Act.put, sTA, sT0, sT1]; go_wp2))
    dsimp only [midQ]
    try go_wp2
    go_meet
    case rel => exact ⟨gH, ds, rfl, rfl, rfl, hd7, hs⟩
  · refine (UpT.wpUp_make (blkT 36 w1.heap.size zb) (by rfl) (by rfl) (fun wz hp => ⟨.pointer (some ⟨wz.heap.size, 0, none⟩), wz.alloc (.cells zb.toArray 36), exec_alloc0 (by rfl) (M.al.1 wz), (Below.refl _ _).alloc (Nat.le_refl _) _, ⟨_, rfl, hp.1.size, Blk.newAt rfl rfl⟩, fun _ => ⟨_, rfl, Nat.le_refl _, by simp⟩⟩) ?_).out
    rintro v ⟨u, _, hf⟩
    obtain ⟨gH, rfl, _, _⟩ := hf.of 9 v _ rfl rfl
    clear hf
    simp only [Act.put, sTA, sT0, sT1]
    refine UpT.wpUp_end ?_
    intro w4 hb4 hf
    have hbs := slB_bs (hf.of 3 _ _ rfl rfl)
    obtain ⟨gE, hgE, hgl9, hA9⟩ := hf.of 9 _ _ rfl rfl
    cases hgE
    replace hs := hs.addAt hb4 hA9 hgl9 M.al.2
    clear hf hb4 hA9 hgl9
    simp only [UpT.opsAt, List.filterMap_cons, List.filterMap_nil, List.getElem?_toArray, List.getElem?_cons_zero, List.getElem?_cons_succ, List.cons_append, List.nil_append]
    go_wp2_with (first
        | (go_at_call 62; go_must (refine (hfx _ _ _ _ hs.rs hbs).mono ?_); rintro e w5 ⟨ds, rfl, hd7, hb5, hR⟩; replace hs := hs.rturn hb5 hR; clear hb5 hR; dsimp only []; apply_assumption; refine wp_move1 rfl rfl (by rfl) ?_; simp only [Act.put, sTA, sT0, sT1]; refine wp_extract1 rfl rfl (by rfl) (by rfl) ?_; simp only [Act.put, sTA, sT0, sT1]; refine wp_extract1 rfl rfl (by rfl) (by rfl) ?_; simp only [Act.put, sTA, sT0, sT1]; refine wp_extract1 rfl rfl (by rfl) (by rfl) ?_; simp only [Act.put, sTA, sT0, sT1]; refine s_st hs hd7 ?_; clear hs; intro w7 hs; simp only [Act.put, sTA, sT0, sT1]; go_wp2))
    dsimp only [midQ]
    try go_wp2
    go_meet
    case rel => exact ⟨gH, ds, rfl, rfl, rfl, hd7, hs⟩
 case rest =>
  clear hs hfx
  obtain ⟨gH, ds, rfl, rfl, rfl, hd7, hs⟩ := hcut
  go_wp2_with (first
   | (refine s_ld hs ?_)
   | (refine s_st hs hd7 ?_; clear hs; intro w1 hs)
   | (refine s_st1 (v := .int .i64 (nn : Int)) t1 hs HW1.out ?_; clear hs; intro w1 hs)
   | (refine s_st1 (v := .int .i64 E) t2 hs HW2.out ?_; clear hs; intro w1 hs))
  refine s_two hs ?_
  clear hs
  intro w2 hs
  simp only [Act.put, sTA, sT0, sT1]
  go_wp2_with (first
   | (refine s_st hs htv2 ?_; clear hs; intro w1 hs))
  exact s_cc (us := ds) (us' := t2) hs ⟨ds, by rw [HT2.out], hs.rdone⟩
end
end Go.Proofs.YthbldjnpnligpaaDoor

/-
 The laws' function both.
-/

namespace Go.Proofs.YthbldjnpnligpaaDoor
set_option linter.unusedSimpArgs false
set_option linter.unusedVariables false
set_option maxRecDepth 100000
open Go.RowKit
section
variable {w w' : World} {G G' : Nat → Prop} {cs cs' : List Value} {S S' : DS} {l l' : List Bool} {t : Nat}
theorem alloc_rmap1 (w : World) : (Instr.alloc 33 true (.tuple #[])).run Tryd.prog w = .ok (.pointer (some ⟨w.heap.size, 0, none⟩)) (w.alloc (.cells [Value.slice none 0 0].toArray 33)) := by kernel_rfl
theorem build_rbank (sa : Option Addr) (sn sc : Nat) (wa : Option Addr) (wn wc : Nat) (fu : Bool) (lf : Int) (of : Bool) (q n c : Nat) (w : World) : (Instr.build 36 [(0, Value.agg [Value.slice sa sn sc, .slice wa wn wc, .bool fu, .int .i64 lf, .bool of].toArray), (1, .agg #[.slice (some ⟨q, 0, none⟩) n c]), (2, .int .u32 7)].toArray).run Tryd.prog w = .ok (.agg ([Value.slice sa sn sc, .slice wa wn wc, .bool fu, .int .i64 lf, .bool of] ++ [Value.slice (some ⟨q, 0, none⟩) n c, .int .u32 7]).toArray) w := by kernel_rfl
theorem Rf.build {cs : List Value} {S : DS} (h : Rf w G cs S) (q n c : Nat) : ∀ w, (Instr.build 36 [(0, Value.agg cs.toArray), (1, .agg #[.slice (some ⟨q, 0, none⟩) n c]), (2, .int .u32 7)].toArray).run Tryd.prog w = .ok (.agg (cs ++ [Value.slice (some ⟨q, 0, none⟩) n c, .int .u32 7]).toArray) w := by
 obtain ⟨n', sa, sc, wa, wc, hok, rfl, hs, hw⟩ := h
 exact fun w => build_rbank sa n' sc wa S.ws.length wc S.fused (S.left : Int) S.off q n c w
set_option maxHeartbeats 8000000 in
theorem both_run (n : Nat) (h16 : 16 ≤ n) (h512 : n ≤ 512) (w : World) : Calls Tryd.prog 11 #[.int .i64 (n : Int)] w fun e w' => ∃ cs, e = .returned (.agg cs.toArray) ∧ RB w' (fun j => w.heap.size ≤ j ∧ j < w'.heap.size) cs (DS.new n) (lab n 4) 7 ∧ Below w.heap.size w w' := by
 have hnd := fun u => rnew_run n u h16 h512
 have hnm := fun u => srnew_run n h16 h512 u
 have HALD : ∃ zd : List Value, zd.length = 5 ∧ ∀ w : World, (Instr.alloc 30 true (.tuple #[])).run Tryd.prog w = .ok (.pointer (some ⟨w.heap.size, 0, none⟩)) (w.alloc (.cells zd.toArray 30)) := ⟨_, rfl, alloc_rdisk⟩
 obtain ⟨zd, hzd, HALD⟩ := HALD
 have HALD : Hid (∀ w : World, (Instr.alloc 30 true (.tuple #[])).run Tryd.prog w = .ok (.pointer (some ⟨w.heap.size, 0, none⟩)) (w.alloc (.cells zd.toArray 30))) := HALD
 have HALM : ∃ zm : List Value, zm.length = 1 ∧ ∀ w : World, (Instr.alloc 33 true (.tuple #[])).run Tryd.prog w = .ok (.pointer (some ⟨w.heap.size, 0, none⟩)) (w.alloc (.cells zm.toArray 33)) := ⟨_, rfl, alloc_rmap1⟩
 obtain ⟨zm, hzm, HALM⟩ := HALM
 have HALM : Hid (∀ w : World, (Instr.alloc 33 true (.tuple #[])).run Tryd.prog w = .ok (.pointer (some ⟨w.heap.size, 0, none⟩)) (w.alloc (.cells zm.toArray 33))) := HALM
 have HALB : ∃ zs : List Value, zs.length = 7 ∧ ∀ w : World, (Instr.alloc 36 true (.tuple #[])).run Tryd.prog w = .ok (.pointer (some ⟨w.heap.size, 0, none⟩)) (w.alloc (.cells zs.toArray 36)) := ⟨_, rfl, alloc_rbank⟩
 obtain ⟨zs, hzs, HALB⟩ := HALB
 have HALB : Hid (∀ w : World, (Instr.alloc 36 true (.tuple #[])).run Tryd.prog w = .ok (.pointer (some ⟨w.heap.size, 0, none⟩)) (w.alloc (.cells zs.toArray 36))) := HALB
 have HLAB : Hid ((lab n 4).length = n ∧ Lab (lab n 4) ∧ (DS.new n).laid.length / 256 = n) := ⟨lab_len n 4, Lab.lab (by omega), by simp [DS.new]⟩
 go_enter Tryd.func11, Tryd.ntmps11
 go_wp2_with (first
 | ((with_reducible show wpList _ _ _ (Oper.mk (some 2) (Op.alloc 36) _ _ _ _ :: _) _ _); refine wpList_alloc0 (by rfl) 36 (by rfl) (some 2) (by rfl) _ HALB.out ?_; intro w1 hR hbw1 hsw1
    have HGR : Hid (w.heap.size ≤ w.heap.size) := Nat.le_refl _
    clear hsw1
    have hbel := hbw1
    clear hbw1)
 | (go_at_call 48; go_must (refine (hnd w1).mono ?_); rintro e w2 ⟨dc, rfl, hrf, hb2⟩
    have hrf2 : Rf w2 (fun j => w1.heap.size ≤ j ∧ j < w2.heap.size) dc (DS.new n) := hrf.keep (fun j hj hl => ⟨rfl, hj, hl⟩)
    have HGA : Hid (w.heap.size < w1.heap.size) := hR.lt
    have hd5 := hrf2.five
    clear hrf
    replace hR := hR.stays hb2
    replace hbel := below_then hbel hb2
    clear hb2)
 | ((with_reducible show wpList _ _ _ (Oper.mk (some 3) (Op.alloc 30) _ _ _ _ :: _) _ _); refine wpList_alloc0 (by rfl) 30 (by rfl) (some 3) (by rfl) _ HALD.out ?_; intro w3 hD hbw3 hsw3
    have HLD : Hid (w.heap.size < w2.heap.size) := hR.lt
    have HGD : Hid (w.heap.size ≤ w2.heap.size) := hbel.size
    replace hR := hR.stays hbw3
    replace hbel := below_then hbel hbw3
    replace hrf2 := hrf2.stays hbw3
    clear hsw3 hbw3)
 | ((with_reducible show wpList _ _ _ (Oper.mk _ (Op.store 30 (.tmp 3) _) _ _ _ _ :: _) _ _); refine wpList_store_blk (by rfl) (.tmp 3) (.tmp 10) 30 (by rfl) _ 0 5 (by rfl) dc (by rfl) size_rdisk hD hd5.1 (by omega) hd5.2 _ (whole_store hzd) ?_; intro w4 hNw4 huw4 hsw4
    clear hsw4
    replace hD := hNw4
    clear hNw4
    replace hR := hR.but huw4 (Nat.ne_of_lt HLD.out)
    replace hbel := hbel.trans (huw4.below HGD.out hbel.size)
    replace hrf2 := hrf2.keep (G' := (fun j => w1.heap.size ≤ j ∧ j < w2.heap.size)) (fun j hj hl => ⟨huw4.block j (fun e => by subst e; have := hj.2; omega) hl, hj⟩)
    clear huw4)
 | (go_at_call 49; go_must (refine (hnm w4).mono ?_); rintro e w5 ⟨q, cq, rfl, hT, hq, hb5⟩
    have hDl := hD.lt
    have hrfl : Hid (w2.heap.size ≤ w4.heap.size) := by show _ ≤ _; have := hD.lt; omega
    replace hR := hR.stays hb5
    replace hD := hD.stays hb5
    replace hbel := below_then hbel hb5
    replace hrf2 := hrf2.stays hb5
    clear hb5
    have hDq : Hid (w2.heap.size < w4.heap.size ∧ w4.heap.size ≤ q) := ⟨hDl, hq⟩)
 | ((with_reducible show wpList _ _ _ (Oper.mk (some 5) (Op.alloc 33) _ _ _ _ :: _) _ _); refine wpList_alloc0 (by rfl) 33 (by rfl) (some 5) (by rfl) _ HALM.out ?_; have hTl := hT.lt; intro w6 hM hbw6 hsw6
    have HLM : Hid (w.heap.size < w5.heap.size ∧ w2.heap.size < w5.heap.size) := ⟨hR.lt, hD.lt⟩
    have HGM : Hid (w.heap.size ≤ w5.heap.size) := hbel.size
    replace hR := hR.stays hbw6
    replace hD := hD.stays hbw6
    replace hbel := below_then hbel hbw6
    replace hrf2 := hrf2.stays hbw6
    replace hT := hT.stays hbw6
    clear hsw6 hbw6
    have hqM : Hid (q ≠ w5.heap.size) := by have := hTl; show _ ≠ _; omega)
 | ((with_reducible show wpList _ _ _ (Oper.mk _ (Op.store 33 (.tmp 5) _) _ _ _ _ :: _) _ _); refine wpList_store_blk (by rfl) (.tmp 5) (.tmp 15) 33 (by rfl) _ 0 1 (by rfl) [.slice (some ⟨q, 0, none⟩) n cq] (by rfl) size_rmap hM rfl (by omega) (by intro v hv; rw [List.mem_singleton.1 hv]; rfl) _ (whole_store hzm) ?_; intro w7 hNw7 huw7 hsw7
    clear hsw7
    replace hM := hNw7
    clear hNw7
    replace hR := hR.but huw7 (Nat.ne_of_lt HLM.out.1)
    replace hD := hD.but huw7 (Nat.ne_of_lt HLM.out.2)
    replace hbel := hbel.trans (huw7.below HGM.out hbel.size)
    replace hrf2 := hrf2.keep (G' := (fun j => w1.heap.size ≤ j ∧ j < w2.heap.size)) (fun j hj hl => ⟨huw7.block j (fun e => by subst e; have := hj.2; omega) hl, hj⟩)
    replace hT := hT.but huw7 hqM.out
    clear huw7)
 | ((with_reducible show wpList _ _ _ (Oper.mk _ (Op.load 30 (.tmp 3)) _ _ _ _ :: _) _ _); refine wpList_load_blk (by rfl) (.tmp 3) 30 (by rfl) _ 0 5 (by rfl) agg_rdisk size_rdisk hD _ (whole_load hd5.1) hd5.1 ?_)
 | ((with_reducible show wpList _ _ _ (Oper.mk _ (Op.load 33 (.tmp 5)) _ _ _ _ :: _) _ _); refine wpList_load_blk (by rfl) (.tmp 5) 33 (by rfl) _ 0 1 (by rfl) agg_rmap size_rmap hM _ (whole_load rfl) rfl ?_)
 | ((with_reducible show wpList _ _ _ (Oper.mk _ (Op.build 36 _) _ _ _ _ :: _) _ _); refine wpList_build (by kernel_rfl) 36 [(0, .tmp 17), (1, .tmp 18), (2, .const (.int .u32 7))] (by rfl) [(0, .agg dc.toArray), (1, .agg #[.slice (some ⟨q, 0, none⟩) n cq]), (2, .int .u32 7)] (by rfl) _ (hrf2.build q n cq) ?_)
 | ((with_reducible show wpList _ _ _ (Oper.mk _ (Op.store 36 (.tmp 2) _) _ _ _ _ :: _) _ _); refine wpList_store_blk (by rfl) (.tmp 2) (.tmp 19) 36 (by rfl) _ 0 7 (by rfl) (dc ++ [Value.slice (some ⟨q, 0, none⟩) n cq, .int .u32 7]) (by rfl) size_rbank hR (by simp [hd5.1]) (by omega) (by intro v hv; simp only [List.mem_append, List.mem_cons, List.not_mem_nil, or_false] at hv; rcases hv with hv | rfl | rfl; exact hd5.2 v hv; rfl; rfl) _ (whole_store hzs) ?_; intro w8 hNw8 huw8 hsw8
    clear hsw8
    replace hR := hNw8
    clear hNw8
    replace hD := hD.but huw8 (Nat.ne_of_gt HLD.out)
    replace hM := hM.but huw8 (Nat.ne_of_gt HLM.out.1)
    replace hbel := hbel.trans (huw8.below HGR.out hbel.size)
    replace hrf2 := hrf2.keep (G' := (fun j => w1.heap.size ≤ j ∧ j < w2.heap.size)) (fun j hj hl => ⟨huw8.block j (fun e => by subst e; have := HGA.out; have := hj.1; omega) hl, hj⟩)
    replace hT := hT.but huw8 (by have := HLD.out; have := hDq.out; omega)
    clear huw8))
 refine bodyPost_ret_blk rfl rfl (by rfl) agg_rbank size_rbank hR (by simp [hd5.1]) ⟨_, rfl, ⟨dc, q, cq, by rw [HLAB.out.1]; rfl, hrf2.keep (fun j hj hl => ⟨rfl, by have := HGA.out; omega, hl⟩), hT, ⟨by have := hDq.out; have := HGD.out; omega, hT.lt⟩, by rw [HLAB.out.1, HLAB.out.2.2], HLAB.out.2.1⟩, hbel⟩
end
end Go.Proofs.YthbldjnpnligpaaDoor
