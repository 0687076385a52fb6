/-
 bank.Put.
-/
import Derived.Test.YthbldjnpnligpaaDoorB06
import Derived.Test.YthbldjnpnligpaaDoorB31
import Derived.Test.YthbldjnpnligpaaDoorB30
namespace Go.Proofs.YthbldjnpnligpaaDoor
set_option linter.unusedSimpArgs false
set_option linter.unusedVariables false
set_option maxRecDepth 100000
open Go.RowKit
section
variable {B : Nat} {w w' : World} {F : Nat → Prop} {k p g : Nat} {S S' : DS} {l l' : List Bool} {t : Nat}
set_option maxHeartbeats 8000000 in
theorem bput_bad (h : Bk B w F k p g S l t) (hln : S.ws.length ≤ 800000) (hV : Vars w) (a : Option Addr) (c : Nat) (bs : List Int) (hB : Bs w a c bs) (hnF : ∀ x, a = some x → ¬ F x.block) (cp : Int) (hoff : S.off = false) (h256 : bs.length = 256) (hc1 : 1 ≤ cp) (hc2 : cp ≤ 2) (hE : (takeL l cp).2.2 = 0) (hbad : (wrK bs S (takeL l cp).2.1).2 ≠ 0) :
 Calls Tryd.prog 50 #[.pointer (some ⟨k, 0, none⟩), .slice a 256 c, .int .i64 cp] w fun e w' => e = .returned (.tuple #[.agg (putK S l t bs cp).2.1.vs.toArray, .int .i64 (putK S l t bs cp).2.2]) ∧ BThen B F w w' k p g (putK S l t bs cp).1.1 (putK S l t bs cp).1.2 t := by
 have hdn := fun u (hu : Below w.heap.size w u) => bdown_run (h.stays hu) (by omega)
 have HAL : Hid (∀ w : World, (Instr.alloc 42 true (.tuple #[])).run Tryd.prog w = .ok (.pointer (some ⟨w.heap.size, 0, none⟩)) (w.alloc (.cells Pt.zero.vs.toArray 42))) := alloc_ptr0
 have HBU : Hid (∀ w : World, (Instr.build 42 #[]).run Tryd.prog w = .ok (.agg Pt.zero.vs.toArray) w) := build_ptr0
 have hzl : Pt.zero.vs.length = 35 := Pt.vs_len Pt.zero_ok
 have hzo : ∀ v ∈ Pt.zero.vs, v.oneCell' = true := zero_one
 obtain ⟨zs, hzs⟩ : ∃ zs, zs = Pt.zero.vs := ⟨_, rfl⟩
 rw [← hzs] at HAL HBU hzl hzo
 have hzs' := hzs
 rw [hoff] at hdn
 have hx2 : decide (cp < 1) = false := by simp; omega
 have hx3 : decide (2 < cp) = false := by simp; omega
 have hM2 := fun u (hu : Below w.heap.size w u) => (h.stays hu).mp
 have hgl := h.mp.blk.lt
 obtain ⟨l1, hl1⟩ : ∃ l1, l1 = (takeL l cp).1 := ⟨_, rfl⟩
 obtain ⟨xs, hxs⟩ : ∃ xs, xs = (takeL l cp).2.1 := ⟨_, rfl⟩
 have hxl : ∀ x ∈ xs, x < l1.length := by rw [hxs, hl1, takeL_len]; exact fun x hx => (takeL_bound l cp x hx).1
 have hxr : ∀ x ∈ xs, x < 4294967296 := by rw [hxs]; exact takeL_rng l cp h.mp.hi
 have hcnt : xs.length = cp.toNat := by rw [hxs]; exact takeL_count hE
 have hl1l : l1.length = l.length := by rw [hl1]; exact takeL_len l cp
 have hl1b : Lab l1 := by rw [hl1]; exact h.lab.take (by have := h.mp.lo; omega) cp
 have HGB : Hid (giveAll l1 xs = l) := by show _ = _; rw [hl1, hxs]; exact giveAll_take h.lab cp
 obtain ⟨m, hm⟩ : ∃ m, m = xs.length := ⟨_, rfl⟩
 have HM : Hid (m = xs.length) := hm
 have hm2 : 1 ≤ m ∧ m ≤ 2 := by omega
 have htk : ∀ u, Mp u g l → Calls Tryd.prog 103 #[.pointer (some ⟨g, 0, none⟩), .int .i64 cp] u fun e w' => ∃ a c, e = .returned (.tuple #[.slice a m c, .int .i64 0]) ∧ (Us w' a xs ∧ ∀ x, a = some x → u.heap.size ≤ x.block) ∧ Mp w' g l1 ∧ But g u w' := fun u hu => by
  refine (take_run cp u hu).mono ?_
  rintro e w' ⟨v, rfl, hN, hM, hb⟩
  obtain ⟨a, c, rfl⟩ := hN.form
  rw [← hxs, ← hm] at hN
  rw [← hxs, ← hm, hE]
  rw [← hl1] at hM
  exact ⟨a, c, rfl, ⟨(hN.us hxr).2, fun x hx => (hN.lt (k := x.block) (by rw [hx]; rfl)).1⟩, hM, hb⟩
 have hcg : ∀ u, Below w.heap.size w u → u.cell? ⟨k, 1, none⟩ = some (.pointer (some ⟨g, 0, none⟩)) := fun u hu => (h.stays hu).bb.cell 1
 have HV : Hid (putK S l t bs cp = if (wrK bs S xs).2 ≠ 0 then (((wrK bs S xs).1, l), Pt.zero, (wrK bs S xs).2) else (((wrK bs S xs).1, l1), ⟨shaOf bs, t, xs.getD 0 0, xs.getD 1 0⟩, 0)) := by
  show _ = _
  unfold putK
  rw [hoff, if_neg (by decide), if_neg (by omega), if_neg (by rw [hE]; simp), ← hxs, ← hl1]
 have hbw : ∀ u a3 c3, Bk B u F k p g S l1 t → Us u a3 xs → (∀ x, a3 = some x → ¬ F x.block) → Bs u a c bs → Calls Tryd.prog 104 #[.pointer (some ⟨k, 0, none⟩), .slice a3 m c3, .slice a 256 c] u fun e w' => e = .returned (.int .i64 (wrK bs S xs).2) ∧ Then F u w' p (wrK bs S xs).1 := fun u a3 c3 hk3 hU3 hn3 hB3 => by
  have := bwrite_run hk3 hln a3 c3 xs hU3 (by omega) hxl hn3 a c bs hB3 h256 hnF
  rw [← hm] at this
  exact this
 rw [← hxs] at hbad
 rw [HV.out, if_pos hbad]
 have hne : ((wrK bs S xs).2 != 0) = true := by simpa using hbad
 obtain ⟨E, hEE⟩ : ∃ E, E = (wrK bs S xs).2 := ⟨_, rfl⟩
 obtain ⟨T, hT⟩ : ∃ T, T = (wrK bs S xs).1 := ⟨_, rfl⟩
 have hTl : T.laid = S.laid := by rw [hT]; exact wrK_laid _ _ _
 rw [← hEE] at hne
 rw [← hEE, ← hT] at hbw ⊢
 rw [← hzs]
 clear hl1 hxs hcnt hm hzs' hbad HV hEE hT hzs
 go_enter Tryd.func50, Tryd.ntmps50
 go_wp2_with (first
  | ((with_reducible show wpList _ _ _ (Oper.mk _ (Op.alloc _) _ _ _ _ :: _) _ _); refine wpList_alloc0 (by rfl) 42 (by rfl) (some 6) (by rfl) _ HAL.out ?_; intro w1 hR1 hb1 hs1
     clear hs1
     have hd1 := hdn _ hb1)
  | (go_at_call 102; go_must (refine hd1.mono ?_); rintro e w2 ⟨rfl, hb2⟩
     have hR2 := hR1.stays hb2
     have hb2' := below_then hb1 hb2
     have hm2' := hM2 _ hb2'
     have hc2' := hcg _ hb2'
     have hnR : ¬ F w.heap.size := fun hf => by have := (h.low _ hf).2; omega)
  | (go_at_call 103; go_must (refine (htk _ hm2').mono ?_); rintro e w3 ⟨a3, c3, rfl, hU3, hM3, hb3⟩
     have hR3 := hR2.but hb3 (by have := hb1.size; omega)
     have hk3 := (h.stays hb2').map hM3 hb3 hl1l hl1b
     have hB3 := bs_map (hB.stays hb2') hm2' hb3
     have hn3 : ∀ x, a3 = some x → ¬ F x.block := fun x hx hf => by have := hU3.2 x hx; have := (h.low _ hf).2; have := hb2'.size; omega
     have hw3 := hbw _ a3 c3 hk3 hU3.1 hn3 hB3)
  | (go_at_call 104; go_must (refine hw3.mono ?_); rintro e w4 ⟨rfl, ht4⟩
     have hR4 := box_keep ht4.2 hR3 hnR))
 have hk4 := (bthen_dk hk3 hk3.base ht4 (by rw [hTl]))
 have hM4 : Mp w4 g l1 := ⟨box_keep ht4.2 hk3.mp.blk hk3.fg, hk3.mp.lo, hk3.mp.hi⟩
 have hU4 := us_keep ht4.2 hU3.1 hn3
 have hg4 : w4.cell? ⟨k, 1, none⟩ = some (.pointer (some ⟨g, 0, none⟩)) := (box_keep ht4.2 hk3.bb hk3.fk).cell 1
 clear hg4
 have HG : Hid (∀ u, But g w4 u → u.cell? ⟨k, 1, none⟩ = some (.pointer (some ⟨g, 0, none⟩))) := fun u hu => ((box_keep ht4.2 hk3.bb hk3.fk).but hu hk3.ne).cell 1
 have hb23 := hb3
 clear hw3 hbw htk hB3
 go_loopw [50] (fun i wr => ∃ j : Nat, j ≤ m ∧ i = .int .i64 j ∧ Mp wr g (giveAll l1 (xs.take j)) ∧ But g w4 wr) (fun i _ => m - (intOf i).toNat)
 case atStart => exact ⟨0, by omega, rfl, hM4, But.refl _ _⟩
 case round =>
  rename_i wr hrel
  obtain ⟨j, hj, rfl, hMr, hbr⟩ := hrel
  by_cases hlt : j < m
  · obtain ⟨b, off, ha, hc⟩ := us_at (hU4.but hM4 hbr) (j := j) (by have := HM.out; omega)
    have hix : ∀ u : World, (Instr.indexAt 169 (.slice a3 m c3) (.int .i64 (j : Int))).run Tryd.prog u = .ok (.pointer (some ⟨b, off + j, none⟩)) u := fun u => by
        rw [ha]; exact index_us b off m c3 j hlt u
    have hqr := hxr (xs.getD j 0) (by have := HM.out; simp [List.getD, show j < xs.length by omega])
    have HTN := take_next xs j (by have := HM.out; omega)
    obtain ⟨q, hq⟩ : ∃ q, q = xs.getD j 0 := ⟨_, rfl⟩
    rw [← hq] at hc hqr HTN
    have HN : Hid (xs.take (j + 1) = xs.take j ++ [q]) := HTN
    have hgv := give_run q hqr wr hMr
    have hcr := HG.out wr hbr
    clear hq HTN ha
    go_wp2_with (first
        | (go_at_call 105; go_must (refine hgv.mono ?_); rintro e w5 ⟨rfl, hM5, hb5⟩))
    go_roundw
    case rel => exact ⟨j + 1, by omega, by go_num, (by rw [HN.out, giveAll_more]; exact hM5), hbr.trans hb5⟩
    case measure => simp [intOf]; omega
  · have hjm : m = j := by omega
    subst hjm
    rw [List.take_of_length_le (by have := HM.out; omega), HGB.out] at hMr
    have hRr := hR4.but hbr (by have := hb1.size; omega)
    go_wp2_with (first
        | ((with_reducible show wpList _ _ _ (Oper.mk _ (Op.build _ _) _ _ _ _ :: _) _ _); refine wpList_build0 (by rfl) 42 (by rfl) _ HBU.out ?_)
        | ((with_reducible show wpList _ _ _ (Oper.mk _ (Op.store _ _ _) _ _ _ _ :: _) _ _); refine wpList_store_blk (by rfl) (.tmp 6) (.tmp 61) 42 (by rfl) _ 0 35 (by rfl) zs (by rfl) size_ptr hRr hzl (by omega) hzo _ (whole_store hzl) ?_
           intro w6 hRz hbutz hsz))
    refine bodyPost_ret_blk2 rfl rfl (by rfl) (by rfl) agg_ptr size_ptr hRz hzl ⟨rfl, ?_⟩
    have hk2 := h.stays hb2'
    have X1 : BThen B F w2 w3 k p g S l1 t := bthen_map hk2 hM3 hb23 hl1l hl1b
    have hg2 : g < w2.heap.size := by have := hb2'.size; omega
    have X2 : BThen B F w2 w4 k p g T l1 t := by
        obtain ⟨F4, q1, q2, q3⟩ := hk4
        exact ⟨F4, q1, ⟨q2.os.trans hb23.os, q2.tape.trans hb23.tape, q2.output.trans hb23.output, Nat.le_trans hb23.size q2.size, fun j hj hl => (q2.block j hj (Nat.lt_of_lt_of_le hl hb23.size)).trans (hb23.block j (fun e => hj (.inr e)) hl)⟩, fun j hj => by
         rcases q3 j hj with q4 | q4
         · exact .inl q4
         · exact .inr (Nat.le_trans hb23.size q4)⟩
    have X3 : BThen B F w2 wr k p g T l t := bthen_trans X2 hg2 (fun F' hk' => bthen_map hk' hMr hbr hl1l.symm h.lab)
    exact bthen_new h hb2' X3 hbutz (Nat.le_refl _) hR2.lt
set_option maxHeartbeats 20000000 in
theorem bput_ok (h : Bk B w F k p g S l t) (hln : S.ws.length ≤ 800000) (hV : Vars w) (a : Option Addr) (c : Nat) (bs : List Int) (hB : Bs w a c bs) (hnF : ∀ x, a = some x → ¬ F x.block) (cp : Int) (hB2 : 2 ≤ B) (hoff : S.off = false) (h256 : bs.length = 256) (hc1 : 1 ≤ cp) (hc2 : cp ≤ 2) (hE : (takeL l cp).2.2 = 0) (hgood : (wrK bs S (takeL l cp).2.1).2 = 0) :
 Calls Tryd.prog 50 #[.pointer (some ⟨k, 0, none⟩), .slice a 256 c, .int .i64 cp] w fun e w' => e = .returned (.tuple #[.agg (putK S l t bs cp).2.1.vs.toArray, .int .i64 (putK S l t bs cp).2.2]) ∧ BThen B F w w' k p g (putK S l t bs cp).1.1 (putK S l t bs cp).1.2 t := by
 have hdn := fun u (hu : Below w.heap.size w u) => bdown_run (h.stays hu) (by omega)
 have HAL : Hid (∀ w : World, (Instr.alloc 42 true (.tuple #[])).run Tryd.prog w = .ok (.pointer (some ⟨w.heap.size, 0, none⟩)) (w.alloc (.cells Pt.zero.vs.toArray 42))) := alloc_ptr0
 have HBU : Hid (∀ w : World, (Instr.build 42 #[]).run Tryd.prog w = .ok (.agg Pt.zero.vs.toArray) w) := build_ptr0
 have hzl : Pt.zero.vs.length = 35 := Pt.vs_len Pt.zero_ok
 have hzo : ∀ v ∈ Pt.zero.vs, v.oneCell' = true := zero_one
 obtain ⟨zs, hzs⟩ : ∃ zs, zs = Pt.zero.vs := ⟨_, rfl⟩
 rw [← hzs] at HAL HBU hzl hzo
 have hzs' := hzs
 rw [hoff] at hdn
 have hx2 : decide (cp < 1) = false := by simp; omega
 have hx3 : decide (2 < cp) = false := by simp; omega
 have hM2 := fun u (hu : Below w.heap.size w u) => (h.stays hu).mp
 have hgl := h.mp.blk.lt
 obtain ⟨l1, hl1⟩ : ∃ l1, l1 = (takeL l cp).1 := ⟨_, rfl⟩
 obtain ⟨xs, hxs⟩ : ∃ xs, xs = (takeL l cp).2.1 := ⟨_, rfl⟩
 have hxl : ∀ x ∈ xs, x < l1.length := by rw [hxs, hl1, takeL_len]; exact fun x hx => (takeL_bound l cp x hx).1
 have hxr : ∀ x ∈ xs, x < 4294967296 := by rw [hxs]; exact takeL_rng l cp h.mp.hi
 have hcnt : xs.length = cp.toNat := by rw [hxs]; exact takeL_count hE
 have hl1l : l1.length = l.length := by rw [hl1]; exact takeL_len l cp
 have hl1b : Lab l1 := by rw [hl1]; exact h.lab.take (by have := h.mp.lo; omega) cp
 have HGB : Hid (giveAll l1 xs = l) := by show _ = _; rw [hl1, hxs]; exact giveAll_take h.lab cp
 obtain ⟨m, hm⟩ : ∃ m, m = xs.length := ⟨_, rfl⟩
 have HM : Hid (m = xs.length) := hm
 have hm2 : 1 ≤ m ∧ m ≤ 2 := by omega
 have htk : ∀ u, Mp u g l → Calls Tryd.prog 103 #[.pointer (some ⟨g, 0, none⟩), .int .i64 cp] u fun e w' => ∃ a c, e = .returned (.tuple #[.slice a m c, .int .i64 0]) ∧ (Us w' a xs ∧ ∀ x, a = some x → u.heap.size ≤ x.block) ∧ Mp w' g l1 ∧ But g u w' := fun u hu => by
  refine (take_run cp u hu).mono ?_
  rintro e w' ⟨v, rfl, hN, hM, hb⟩
  obtain ⟨a, c, rfl⟩ := hN.form
  rw [← hxs, ← hm] at hN
  rw [← hxs, ← hm, hE]
  rw [← hl1] at hM
  exact ⟨a, c, rfl, ⟨(hN.us hxr).2, fun x hx => (hN.lt (k := x.block) (by rw [hx]; rfl)).1⟩, hM, hb⟩
 have hcg : ∀ u, Below w.heap.size w u → u.cell? ⟨k, 1, none⟩ = some (.pointer (some ⟨g, 0, none⟩)) := fun u hu => (h.stays hu).bb.cell 1
 have HV : Hid (putK S l t bs cp = if (wrK bs S xs).2 ≠ 0 then (((wrK bs S xs).1, l), Pt.zero, (wrK bs S xs).2) else (((wrK bs S xs).1, l1), ⟨shaOf bs, t, xs.getD 0 0, xs.getD 1 0⟩, 0)) := by
  show _ = _
  unfold putK
  rw [hoff, if_neg (by decide), if_neg (by omega), if_neg (by rw [hE]; simp), ← hxs, ← hl1]
 have hbw : ∀ u a3 c3, Bk B u F k p g S l1 t → Us u a3 xs → (∀ x, a3 = some x → ¬ F x.block) → Bs u a c bs → Calls Tryd.prog 104 #[.pointer (some ⟨k, 0, none⟩), .slice a3 m c3, .slice a 256 c] u fun e w' => e = .returned (.int .i64 (wrK bs S xs).2) ∧ Then F u w' p (wrK bs S xs).1 := fun u a3 c3 hk3 hU3 hn3 hB3 => by
  have := bwrite_run hk3 hln a3 c3 xs hU3 (by omega) hxl hn3 a c bs hB3 h256 hnF
  rw [← hm] at this
  exact this
 rw [← hxs] at hgood
 rw [HV.out, if_neg (by simpa using hgood)]
 obtain ⟨T, hT⟩ : ∃ T, T = (wrK bs S xs).1 := ⟨_, rfl⟩
 have hTl : T.laid = S.laid := by rw [hT]; exact wrK_laid _ _ _
 rw [hgood, ← hT] at hbw
 rw [← hT]
 have hsl := shaOf_length bs
 obtain ⟨P0, hP0⟩ : ∃ P0 : Pt, P0 = ⟨shaOf bs, t, 0, 0⟩ := ⟨_, rfl⟩
 obtain ⟨P1, hP1⟩ : ∃ P1 : Pt, P1 = ⟨shaOf bs, t, xs.getD 0 0, xs.getD 1 0⟩ := ⟨_, rfl⟩
 have HCOP : Hid (P0.vs.take 33 ++ (n32s xs ++ P0.vs.drop (33 + xs.length)) = P1.vs) := by show _ = _; rw [hP0, hP1]; exact ptr_copied _ hsl t xs (by omega) (by omega)
 have HBK : Hid (∀ w, (Instr.build 42 [(0, Value.agg ((shaOf bs).map (Value.int .u8)).toArray), (1, .int .u32 (t : Int))].toArray).run Tryd.prog w = .ok (.agg P0.vs.toArray) w) := by rw [hP0]; exact build_ptrK _ hsl t
 have hp0l : P0.vs.length = 35 := by rw [hP0]; simp [Pt.vs, hsl]
 have hp1l : P1.vs.length = 35 := by rw [hP1]; simp [Pt.vs, hsl]
 have hp0o : ∀ v ∈ P0.vs, v.oneCell' = true := by rw [hP0]; exact Pt.vs_one _
 have hp1o : ∀ v ∈ P1.vs, v.oneCell' = true := by rw [hP1]; exact Pt.vs_one _
 have hsm : ∀ u, Bs u a c bs → Vars u → Calls Tryd.prog 96 #[.slice a 256 c] u fun e w' => e = .returned (.agg ((shaOf bs).map (Value.int .u8)).toArray) ∧ Below u.heap.size u w' := fun u hu hv => by
  have := sum_run a c bs u hu hv (by omega)
  rw [h256] at this
  exact this
 rw [← hP1]
 obtain ⟨v0, hv0⟩ : ∃ v, v = P0.vs := ⟨_, rfl⟩
 obtain ⟨v1, hv1⟩ : ∃ v, v = P1.vs := ⟨_, rfl⟩
 obtain ⟨ss, hss⟩ : ∃ ss, ss = (shaOf bs).map (Value.int .u8) := ⟨_, rfl⟩
 rw [← hv0, ← hv1] at HCOP
 rw [← hss, ← hv0] at HBK
 rw [← hv0] at hp0l hp0o
 rw [← hv1] at hp1l hp1o ⊢
 rw [← hss] at hsm
 clear hl1 hxs hcnt hm hzs' HV hT hzs hgood hP0 hP1 hv0 hv1 hss hsl
 go_enter Tryd.func50, Tryd.ntmps50
 go_wp2_with (first
  | ((with_reducible show wpList _ _ _ (Oper.mk _ (Op.alloc _) _ _ _ _ :: _) _ _); refine wpList_alloc0 (by rfl) 42 (by rfl) (some 6) (by rfl) _ HAL.out ?_; intro w1 hR1 hb1 hs1
     clear hs1
     have hd1 := hdn _ hb1)
  | (go_at_call 102; go_must (refine hd1.mono ?_); rintro e w2 ⟨rfl, hb2⟩
     have hR2 := hR1.stays hb2
     have hb2' := below_then hb1 hb2
     have hm2' := hM2 _ hb2'
     have hc2' := hcg _ hb2'
     have hnR : ¬ F w.heap.size := fun hf => by have := (h.low _ hf).2; omega)
  | (go_at_call 103; go_must (refine (htk _ hm2').mono ?_); rintro e w3 ⟨a3, c3, rfl, hU3, hM3, hb3⟩
     have hR3 := hR2.but hb3 (by have := hb1.size; omega)
     have hk3 := (h.stays hb2').map hM3 hb3 hl1l hl1b
     have hB3 := bs_map (hB.stays hb2') hm2' hb3
     have hn3 : ∀ x, a3 = some x → ¬ F x.block := fun x hx hf => by have := hU3.2 x hx; have := (h.low _ hf).2; have := hb2'.size; omega
     have hw3 := hbw _ a3 c3 hk3 hU3.1 hn3 hB3)
  | (go_at_call 104; go_must (refine hw3.mono ?_); rintro e w4 ⟨rfl, ht4⟩
     have hR4 := box_keep ht4.2 hR3 hnR))
 have hk4 := (bthen_dk hk3 hk3.base ht4 (by rw [hTl]))
 have hk2 := h.stays hb2'
 have X1 : BThen B F w2 w3 k p g S l1 t := bthen_map hk2 hM3 hb3 hl1l hl1b
 have hg2 : g < w2.heap.size := by have := hb2'.size; omega
 have X2 : BThen B F w2 w4 k p g T l1 t := by
  obtain ⟨F4, q1, q2, q3⟩ := hk4
  exact ⟨F4, q1, ⟨q2.os.trans hb3.os, q2.tape.trans hb3.tape, q2.output.trans hb3.output, Nat.le_trans hb3.size q2.size, fun j hj hl => (q2.block j hj (Nat.lt_of_lt_of_le hl hb3.size)).trans (hb3.block j (fun e => hj (.inr e)) hl)⟩, fun j hj => by
   rcases q3 j hj with q4 | q4
   · exact .inl q4
   · exact .inr (Nat.le_trans hb3.size q4)⟩
 have hU4 := us_keep ht4.2 hU3.1 hn3
 have hB4 := bs_keep ht4.2 hB3 hnF
 have hV4 : Vars w4 := (hV.stays hb2').below (X2.below (by have := h.base; have := hb2'.size; omega) (fun j hj => (h.low j hj).1) h.lg) hB2
 have htx : Hid (∀ u, Below w4.heap.size w4 u → u.cell? ⟨k, 2, none⟩ = some (.int .u32 (t : Int))) := fun u hu => ((box_keep ht4.2 hk3.bb hk3.fk).stays hu).cell 2
 have hsm4 : ∀ u, Below w4.heap.size w4 u → Calls Tryd.prog 96 #[.slice a 256 c] u fun e w' => e = .returned (.agg ss.toArray) ∧ Below u.heap.size u w' := fun u hu => hsm u (hB4.stays hu) (hV4.stays hu)
 have hx34 : w3.heap.size ≤ w4.heap.size := ht4.2.size
 have hU3b := hU3.2
 have hR4' := hR3
 have hRl : w.heap.size < w2.heap.size := hR2.lt
 clear hw3 hbw htk hB3 hsm hdn hM2 hcg hd1 hR2 hR3 hU3 hk3 hB4 hV4 hn3 hk4 hc2' hm2' hR1
 refine UpT.wp_region_tail 8 (UpT.tell [(1, isV (.agg ss.toArray)), (7, blkT 42 w4.heap.size zs)]) (fun i => i == 7) (by kernel_rfl) (by kernel_rfl) (UpT.tell_steady _ (by
  intro p hp
  simp only [List.mem_cons, List.not_mem_nil, or_false] at hp
  rcases hp with rfl | rfl <;> first | exact isV_steady _ | exact slB_steady _ _ | exact blkT_steady _ _ _)) ?_
 simp only [List.take_succ_cons, List.take_zero]
 refine UpT.wpUp_pu ?_
 simp only [Act.put, sTA, sT0, sT1]
 refine UpT.wpUp_call _ 96 #[.slice a 256 c] (by rfl) (by rfl) (by rfl) (fun wz => by go_simp) (fun wz hp => calls_isV (hsm4 wz hp.1)) ?_
 rintro v ⟨u, _, hf⟩
 obtain rfl := hf.of 1 v _ rfl rfl
 clear hf
 simp only [Act.put, sTA, sT0, sT1]
 refine UpT.wpUp_pu ?_
 simp only [Act.put, sTA, sT0, sT1]
 refine UpT.wpUp_pu ?_
 simp only [Act.put, sTA, sT0, sT1]
 refine UpT.wpUp_pu ?_
 simp only [Act.put, sTA, sT0, sT1]
 apply UpT.wpUp_pure
 case hw => rfl
 case hψ => rfl
 case hv => (intro wz hp; have hcc := htx.out wz hp.1; clear hp; go_simp; try (with_reducible rfl))
 simp only [Act.put, sTA, sT0, sT1]
 refine UpT.wpUp_pure (.agg v0.toArray) (by rfl) (by rfl) (fun wz hp => exec_buildL [(0, .tmp 64), (1, .tmp 68)] (by rfl) _ (by rfl) (HBK.out wz)) ?_
 simp only [Act.put, sTA, sT0, sT1]
 refine UpT.wpUp_make (blkT 42 w4.heap.size zs) (by rfl) (by rfl) (fun wz hp => ⟨.pointer (some ⟨wz.heap.size, 0, none⟩), wz.alloc (.cells zs.toArray 42), exec_alloc0 (by rfl) (HAL.out wz), (Below.refl _ _).alloc (Nat.le_refl _) _, ⟨_, rfl, hp.1.size, Blk.newAt rfl rfl⟩, fun _ => ⟨_, rfl, Nat.le_refl _, by simp⟩⟩) ?_
 rintro v ⟨u, _, hf⟩
 obtain ⟨g5, rfl, _, _⟩ := hf.of 7 v _ rfl rfl
 clear hf
 simp only [Act.put, sTA, sT0, sT1]
 refine UpT.wpUp_end ?_
 intro w5 hb5 hf
 obtain ⟨g5', h5e, hm5, hG⟩ := hf.of 7 _ _ rfl rfl
 cases h5e
 clear hf
 simp only [List.drop_succ_cons, List.drop_zero]
 refine wpList_store_blk (by rfl) (.tmp 13) (.tmp 69) 42 (by rfl) g5 0 35 (by rfl) v0 (by rfl) size_ptr hG hp0l (by omega) hp0o v0 (whole_store hzl) ?_
 intro w6 hG6 hbut6 hs6
 simp only [Act.put, sTA, sT0, sT1]
 have hsl2 : ∀ u : World, (Instr.sliceAt 40 (.pointer (some ⟨g5, 33, none⟩)) none none none).run Tryd.prog u = .ok (.slice (some ⟨g5, 33, none⟩) 2 2) u := fun u => slice_all Tryd.underlying40 (by kernel_rfl) u
 have hn53 : ∀ x, a3 = some x → x.block ≠ g5 := fun x hx e => by
  rcases hU4.lay with h0 | ⟨b, off, h1, h2⟩
  · have := HM.out; rw [h0] at this; simp at this; omega
  · rw [hx] at h1; cases h1
    have := World.block_lt_of_cell? w4 _ (h2 0 (by have := HM.out; omega))
    simp only at this e
    omega
 have hU6 : Us w6 a3 xs := us_keep (F := fun j => j = g5) (Frm.of_but hbut6 rfl) (hU4.stays hb5) hn53
 have hx24 := hb3.size
 have HRG : Hid (w.heap.size ≠ g5) := by show _ ≠ _; omega
 have hR6 := ((box_keep ht4.2 hR4' hnR).stays hb5).but hbut6 (by omega)
 go_wp2_with (first
  | (refine wpList_copy_us (by rfl) (.tmp 71) (.tmp 72) 169 169 (by rfl) 34 Tryd.underlying169 (by kernel_rfl) g5 33 2 2 a3 m c3 (by rfl) (by rfl) hG6 xs hU6 (by have := HM.out; omega) (by have := HM.out; rw [← this]; show m = min m 2; omega) (by have := HM.out; omega) ?_
     intro w7 v7 hG7 hbut7 hs7
     rw [HCOP.out] at hG7
     have hR7 := hR6.but hbut7 HRG.out)
  | ((with_reducible show wpList _ _ _ (Oper.mk _ (Op.load _ _) _ _ _ _ :: _) _ _); refine wpList_load_blk (by rfl) (.tmp 13) 42 (by rfl) _ 0 35 (by rfl) agg_ptr size_ptr hG7 _ (whole_load hp1l) hp1l ?_)
  | ((with_reducible show wpList _ _ _ (Oper.mk _ (Op.store _ _ _) _ _ _ _ :: _) _ _); refine wpList_store_blk (by rfl) (.tmp 6) (.tmp 74) 42 (by rfl) _ 0 35 (by rfl) v1 (by rfl) size_ptr hR7 hp1l (by omega) hp1o _ (whole_store hzl) ?_
     intro w8 hR8 hbut8 hs8))
 refine bodyPost_ret_blk2 rfl rfl (by rfl) (by rfl) agg_ptr size_ptr hR8 hp1l ⟨rfl, ?_⟩
 have hb47 : Below w4.heap.size w4 w7 := (hb5.trans (hbut6.below hm5 hb5.size)).trans (hbut7.below hm5 (hb5.trans (hbut6.below hm5 hb5.size)).size)
 have X3 : BThen B F w2 w7 k p g T l1 t := bthen_trans X2 hg2 (fun F' hk' => bthen_same hk' hb47)
 exact bthen_new h hb2' X3 hbut8 (Nat.le_refl _) hRl
theorem bput_run (h : Bk B w F k p g S l t) (hln : S.ws.length ≤ 800000) (hV : Vars w) (a : Option Addr) (c : Nat) (bs : List Int) (hB : Bs w a c bs) (hnF : bs ≠ [] → ∀ x, a = some x → ¬ F x.block) (cp : Int) (hB2 : 2 ≤ B) :
 Calls Tryd.prog 50 #[.pointer (some ⟨k, 0, none⟩), .slice a bs.length c, .int .i64 cp] w fun e w' => e = .returned (.tuple #[.agg (putK S l t bs cp).2.1.vs.toArray, .int .i64 (putK S l t bs cp).2.2]) ∧ BThen B F w w' k p g (putK S l t bs cp).1.1 (putK S l t bs cp).1.2 t := by
 cases hoff : S.off
 · by_cases h256 : bs.length = 256
   · by_cases hc1 : cp < 1
     · have hv : putK S l t bs cp = ((S, l), Pt.zero, 1) := by unfold putK; rw [hoff, if_neg (by decide), if_pos (by omega)]
       rw [hv]
       exact (bput_low h hln hV a c bs hB cp hoff h256 hc1).mono fun e w' he => ⟨he.1, bthen_same h he.2⟩
     · by_cases hc2 : 2 < cp
       · have hv : putK S l t bs cp = ((S, l), Pt.zero, 1) := by unfold putK; rw [hoff, if_neg (by decide), if_pos (by omega)]
         rw [hv]
         exact (bput_high h hln hV a c bs hB cp hoff h256 hc2).mono fun e w' he => ⟨he.1, bthen_same h he.2⟩
       · by_cases hE : (takeL l cp).2.2 = 0
         · rw [h256]
           by_cases hw : (wrK bs S (takeL l cp).2.1).2 = 0
           · exact bput_ok h hln hV a c bs hB (hnF (by intro e; rw [e] at h256; simp at h256)) cp hB2 hoff h256 (by omega) (by omega) hE hw
           · exact bput_bad h hln hV a c bs hB (hnF (by intro e; rw [e] at h256; simp at h256)) cp hoff h256 (by omega) (by omega) hE hw
         · have hv : putK S l t bs cp = ((S, l), Pt.zero, ((takeL l cp).2.2 : Int)) := by unfold putK; rw [hoff, if_neg (by decide), if_neg (by omega), if_pos hE]
           rw [hv, h256]
           exact (bput_full h hln hV a c bs hB cp hoff h256 (by omega) (by omega) _ rfl hE).mono fun e w' he => ⟨he.1, bthen_map h he.2.2 he.2.1 rfl h.lab⟩
   · have hv : putK S l t bs cp = ((S, l), Pt.zero, 1) := by unfold putK; rw [hoff, if_neg (by decide), if_pos (by omega)]
     rw [hv]
     exact (bput_len h hln hV a c bs hB cp hoff h256).mono fun e w' he => ⟨he.1, bthen_same h he.2⟩
 · have hv : putK S l t bs cp = ((S, l), Pt.zero, 8) := by unfold putK; rw [hoff, if_pos rfl]
   rw [hv]
   exact (bput_down h hln hV a c bs hB cp hoff).mono fun e w' he => ⟨he.1, bthen_same h he.2⟩
end
end Go.Proofs.YthbldjnpnligpaaDoor

/-
 bank.Heal, bank.Fix.
-/

namespace Go.Proofs.YthbldjnpnligpaaDoor
set_option linter.unusedSimpArgs false
set_option linter.unusedVariables false
set_option maxRecDepth 100000
open Go.RowKit
section
variable {B : Nat} {w w' : World} {F : Nat → Prop} {k p g : Nat} {S S' : DS} {l l' : List Bool} {t : Nat}
theorem read_later (h : Bk B w F k p g S l t) (hln : S.ws.length ≤ 800000) (hV : Vars w) (hB2 : 2 ≤ B) (q : Pt) (hq : q.ok) : ∀ u, Below w.heap.size w u → Calls Tryd.prog 52 #[.pointer (some ⟨k, 0, none⟩), .agg q.vs.toArray] u fun e w' => ∃ a c, e = .returned (.tuple #[.slice a (readK S q).1.length c, .int .i64 (readK S q).2]) ∧ NewB u.heap.size w' a c (readK S q).1 ∧ Below u.heap.size u w' :=
 fun u hu => bread_run (h.stays hu) (by omega) (hV.stays hu) q hq
set_option maxHeartbeats 4000000 in
theorem bheal_err (h : Bk B w F k p g S l t) (hln : S.ws.length ≤ 800000) (hV : Vars w) (hB2 : 2 ≤ B) (q : Pt) (hq : q.ok) (he : (readK S q).2 ≠ 0) :
 Calls Tryd.prog 54 #[.pointer (some ⟨k, 0, none⟩), .agg q.vs.toArray] w fun e w' => e = .returned (.tuple #[.int .i64 (0), .int .i64 (readK S q).2]) ∧ Below w.heap.size w w' := by
 have hrd := read_later h hln hV hB2 q hq
 have hvl := Pt.vs_len hq
 obtain ⟨vs, hvs⟩ : ∃ vs, vs = q.vs := ⟨_, rfl⟩
 rw [← hvs] at hrd hvl ⊢
 have hne : ((readK S q).2 != 0) = true := by simpa using he
 obtain ⟨E, hE⟩ : ∃ E, E = (readK S q).2 := ⟨_, rfl⟩
 obtain ⟨R, hR⟩ : ∃ R, R = (readK S q).1 := ⟨_, rfl⟩
 rw [← hE] at hrd hne ⊢
 rw [← hR] at hrd
 clear hE hR he hvs
 go_enter Tryd.func54, Tryd.ntmps54
 go_wp2_with (first
  | ((with_reducible show wpList _ _ _ (Oper.mk _ (Op.box _ _) _ _ _ _ :: _) _ _); refine wpList_box0 (by rfl) 42 (.tmp 1) (by rfl) vs (by rfl) ?_; intro w1 hL1 hb1 hs1
     clear hs1
     have hr1 := hrd _ hb1)
  | ((with_reducible show wpList _ _ _ (Oper.mk _ (Op.load 42 _) _ _ _ _ :: _) _ _); refine wpList_load_blk (by rfl) (.tmp 3) 42 (by rfl) _ 0 35 (by rfl) agg_ptr size_ptr hL1 _ (whole_load hvl) hvl ?_)
  | (go_at_call 52; go_must (refine hr1.mono ?_); rintro e w2 ⟨a2, c2, rfl, hN2, hb2⟩))
 go_ret2
 exact ⟨rfl, below_then hb1 hb2⟩
set_option maxHeartbeats 4000000 in
theorem bheal_go (h : Bk B w F k p g S l t) (hln : S.ws.length ≤ 800000) (hV : Vars w) (hB2 : 2 ≤ B) (q : Pt) (hq : q.ok) (he : (readK S q).2 = 0) :
 Calls Tryd.prog 54 #[.pointer (some ⟨k, 0, none⟩), .agg q.vs.toArray] w fun e w' => e = .returned (.tuple #[.int .i64 ((restK S q (readK S q).1).1.2), .int .i64 (restK S q (readK S q).1).2]) ∧ Then F w w' p (restK S q (readK S q).1).1.1 := by
 obtain ⟨n, hok⟩ := h.dk.ok
 have hrl : (readK S q).1.length = 256 := by
  rcases readK_len hok q with h1 | h1
  · exact h1.2
  · exact absurd he h1.1
 have hoff : S.off = false := by
  unfold readK at he
  by_cases h1 : okK S q ≠ 0
  · rw [if_pos h1] at he; exact absurd he h1
  · exact (okK_zero (by simpa using h1)).1
 have hrd := read_later h hln hV hB2 q hq
 obtain ⟨R, hR⟩ : ∃ R, R = (readK S q).1 := ⟨_, rfl⟩
 rw [he] at hrd
 rw [← hR] at hrd hrl ⊢
 have hrs : ∀ u a c, Below w.heap.size w u → NewB w.heap.size u a c R → Calls Tryd.prog 108 #[.pointer (some ⟨k, 0, none⟩), .agg q.vs.toArray, .slice a 256 c] u fun e w' => e = .returned (.tuple #[.int .i64 ((restK S q R).1.2 : Int), .int .i64 (restK S q R).2]) ∧ Then F w w' p (restK S q R).1.1 := fun u a c hu hN => by
  refine (restore_run (h.stays hu) (by omega) (hV.stays hu) hB2 hoff q hq a c R hN.1 hrl (fun x hx hf => by have := hN.2 x hx; have := (h.low _ hf).2; omega)).mono ?_
  rintro e w' ⟨rfl, ht⟩
  exact ⟨rfl, then_below hu ht⟩
 have hvl := Pt.vs_len hq
 obtain ⟨vs, hvs⟩ : ∃ vs, vs = q.vs := ⟨_, rfl⟩
 rw [← hvs] at hrd hrs hvl ⊢
 rw [hrl] at hrd
 obtain ⟨N, hN⟩ : ∃ N, N = (restK S q R).1.2 := ⟨_, rfl⟩
 obtain ⟨E, hE⟩ : ∃ E, E = (restK S q R).2 := ⟨_, rfl⟩
 rw [← hN, ← hE] at hrs ⊢
 clear hN hE hR he hvs hrl
 go_enter Tryd.func54, Tryd.ntmps54
 go_wp2_with (first
  | ((with_reducible show wpList _ _ _ (Oper.mk _ (Op.box _ _) _ _ _ _ :: _) _ _); refine wpList_box0 (by rfl) 42 (.tmp 1) (by rfl) vs (by rfl) ?_; intro w1 hL1 hb1 hs1
     clear hs1
     have hr1 := hrd _ hb1)
  | ((with_reducible show wpList _ _ _ (Oper.mk _ (Op.load 42 _) _ _ _ _ :: _) _ _); refine wpList_load_blk (by rfl) (.tmp 3) 42 (by rfl) _ 0 35 (by rfl) agg_ptr size_ptr hL1 _ (whole_load hvl) hvl ?_)
  | ((with_reducible show wpList _ _ _ (Oper.mk _ (Op.load 42 _) _ _ _ _ :: _) _ _); refine wpList_load_blk (by rfl) (.tmp 3) 42 (by rfl) _ 0 35 (by rfl) agg_ptr size_ptr hL2 _ (whole_load hvl) hvl ?_)
  | (go_at_call 52; go_must (refine hr1.mono ?_); rintro e w2 ⟨a2, c2, rfl, hN2, hb2⟩
     have hL2 := hL1.stays hb2
     have hs2 := hrs w2 a2 c2 (below_then hb1 hb2) (hN2.mono hb1.size))
  | (go_at_call 108; go_must (refine hs2.mono ?_); rintro e w3 ⟨rfl, ht3⟩))
 go_ret2
 exact ⟨rfl, ht3⟩
theorem bheal_run (h : Bk B w F k p g S l t) (hln : S.ws.length ≤ 800000) (hV : Vars w) (hB2 : 2 ≤ B) (q : Pt) (hq : q.ok) :
 Calls Tryd.prog 54 #[.pointer (some ⟨k, 0, none⟩), .agg q.vs.toArray] w fun e w' => e = .returned (.tuple #[.int .i64 ((healK S q).1.2), .int .i64 (healK S q).2]) ∧ BThen B F w w' k p g (healK S q).1.1 l t := by
 by_cases he : (readK S q).2 = 0
 · have hv : healK S q = restK S q (readK S q).1 := by unfold healK; rw [if_neg (by simpa using he)]
   rw [hv]
   exact (bheal_go h hln hV hB2 q hq he).mono fun e w' hh => ⟨hh.1, bthen_dk h h.base hh.2 (by rw [restK_laid])⟩
 · have hv : healK S q = ((S, 0), (readK S q).2) := by unfold healK; rw [if_pos he]
   rw [hv]
   exact (bheal_err h hln hV hB2 q hq he).mono fun e w' hh => ⟨hh.1, bthen_same h hh.2⟩
end
end Go.Proofs.YthbldjnpnligpaaDoor

/-
 bank.Fix.
-/

namespace Go.Proofs.YthbldjnpnligpaaDoor
set_option linter.unusedSimpArgs false
set_option linter.unusedVariables false
set_option maxRecDepth 100000
open Go.RowKit
section
variable {B : Nat} {w w' : World} {F : Nat → Prop} {k p g : Nat} {S S' : DS} {l l' : List Bool} {t : Nat}
set_option maxHeartbeats 4000000 in
theorem bfix_err (h : Bk B w F k p g S l t) (hln : S.ws.length ≤ 800000) (hV : Vars w) (hB2 : 2 ≤ B) (q : Pt) (hq : q.ok) (a : Option Addr) (c : Nat) (bs : List Int) (hB : Bs w a c bs) (he : okK S q ≠ 0) :
 Calls Tryd.prog 55 #[.pointer (some ⟨k, 0, none⟩), .agg q.vs.toArray, .slice a bs.length c] w fun e w' => e = .returned (.tuple #[.int .i64 (0), .int .i64 (okK S q)]) ∧ Below w.heap.size w w' := by
 have hal := fun u (hu : Below w.heap.size w u) => allows_run (h.stays hu) (by omega) q hq
 have hho := fun u => isHole_run q hq u
 have hvl := Pt.vs_len hq
 obtain ⟨vs, hvs⟩ : ∃ vs, vs = q.vs := ⟨_, rfl⟩
 rw [← hvs] at hal hho hvl ⊢
 have hne : (okK S q != 0) = true := by simpa using he
 obtain ⟨E, hE⟩ : ∃ E, E = okK S q := ⟨_, rfl⟩
 rw [← hE] at hal hne ⊢
 obtain ⟨n, hn⟩ : ∃ n, n = bs.length := ⟨_, rfl⟩
 rw [← hn]
 clear hE he hvs hn
 go_enter Tryd.func55, Tryd.ntmps55
 go_wp2_with (first
  | ((with_reducible show wpList _ _ _ (Oper.mk _ (Op.box _ _) _ _ _ _ :: _) _ _); refine wpList_box0 (by rfl) 42 (.tmp 1) (by rfl) vs (by rfl) ?_; intro w1 hL1 hb1 hs1
     clear hs1
     have ha1 := hal _ hb1)
  | ((with_reducible show wpList _ _ _ (Oper.mk _ (Op.load 42 _) _ _ _ _ :: _) _ _); refine wpList_load_blk (by rfl) (.tmp 4) 42 (by rfl) _ 0 35 (by rfl) agg_ptr size_ptr hL1 _ (whole_load hvl) hvl ?_)
  | (go_at_call 106; go_must (refine ha1.mono ?_); rintro e w2 ⟨rfl, hb2⟩
     have hL2 := hL1.stays hb2
     have hb2' := below_then hb1 hb2))
 go_ret2
 exact ⟨rfl, hb2'⟩
set_option maxHeartbeats 4000000 in
theorem bfix_hole (h : Bk B w F k p g S l t) (hln : S.ws.length ≤ 800000) (hV : Vars w) (hB2 : 2 ≤ B) (q : Pt) (hq : q.ok) (a : Option Addr) (c : Nat) (bs : List Int) (hB : Bs w a c bs) (he : okK S q = 0) (hh : q.hole = true) :
 Calls Tryd.prog 55 #[.pointer (some ⟨k, 0, none⟩), .agg q.vs.toArray, .slice a bs.length c] w fun e w' => e = .returned (.tuple #[.int .i64 (0), .int .i64 1]) ∧ Below w.heap.size w w' := by
 have hal := fun u (hu : Below w.heap.size w u) => allows_run (h.stays hu) (by omega) q hq
 have hho := fun u => isHole_run q hq u
 have hvl := Pt.vs_len hq
 obtain ⟨vs, hvs⟩ : ∃ vs, vs = q.vs := ⟨_, rfl⟩
 rw [← hvs] at hal hho hvl ⊢
 rw [he] at hal
 rw [hh] at hho
 obtain ⟨n, hn⟩ : ∃ n, n = bs.length := ⟨_, rfl⟩
 rw [← hn]
 clear he hvs hn hh
 go_enter Tryd.func55, Tryd.ntmps55
 go_wp2_with (first
  | ((with_reducible show wpList _ _ _ (Oper.mk _ (Op.box _ _) _ _ _ _ :: _) _ _); refine wpList_box0 (by rfl) 42 (.tmp 1) (by rfl) vs (by rfl) ?_; intro w1 hL1 hb1 hs1
     clear hs1
     have ha1 := hal _ hb1)
  | ((with_reducible show wpList _ _ _ (Oper.mk _ (Op.load 42 _) _ _ _ _ :: _) _ _); refine wpList_load_blk (by rfl) (.tmp 4) 42 (by rfl) _ 0 35 (by rfl) agg_ptr size_ptr hL1 _ (whole_load hvl) hvl ?_)
  | ((with_reducible show wpList _ _ _ (Oper.mk _ (Op.load 42 _) _ _ _ _ :: _) _ _); refine wpList_load_blk (by rfl) (.tmp 4) 42 (by rfl) _ 0 35 (by rfl) agg_ptr size_ptr hL2 _ (whole_load hvl) hvl ?_)
  | (go_at_call 106; go_must (refine ha1.mono ?_); rintro e w2 ⟨rfl, hb2⟩
     have hL2 := hL1.stays hb2
     have hb2' := below_then hb1 hb2)
  | (go_at_call 87; go_must (refine (hho _).mono ?_); rintro e w3 ⟨rfl, hb3⟩
     have hL3 := hL2.stays hb3
     have hb3' := below_then hb2' hb3))
 go_ret2
 exact ⟨rfl, hb3'⟩
set_option maxHeartbeats 4000000 in
theorem bfix_len (h : Bk B w F k p g S l t) (hln : S.ws.length ≤ 800000) (hV : Vars w) (hB2 : 2 ≤ B) (q : Pt) (hq : q.ok) (a : Option Addr) (c : Nat) (bs : List Int) (hB : Bs w a c bs) (he : okK S q = 0) (hh : q.hole = false) (h256 : bs.length ≠ 256) :
 Calls Tryd.prog 55 #[.pointer (some ⟨k, 0, none⟩), .agg q.vs.toArray, .slice a bs.length c] w fun e w' => e = .returned (.tuple #[.int .i64 (0), .int .i64 1]) ∧ Below w.heap.size w w' := by
 have hal := fun u (hu : Below w.heap.size w u) => allows_run (h.stays hu) (by omega) q hq
 have hho := fun u => isHole_run q hq u
 have hvl := Pt.vs_len hq
 obtain ⟨vs, hvs⟩ : ∃ vs, vs = q.vs := ⟨_, rfl⟩
 rw [← hvs] at hal hho hvl ⊢
 rw [he] at hal
 rw [hh] at hho
 obtain ⟨n, hn⟩ : ∃ n, n = bs.length := ⟨_, rfl⟩
 rw [← hn] at h256 ⊢
 have hx1 : ((n : Int) != 256) = true := by simp; omega
 clear he hvs hn hh
 go_enter Tryd.func55, Tryd.ntmps55
 go_wp2_with (first
  | ((with_reducible show wpList _ _ _ (Oper.mk _ (Op.box _ _) _ _ _ _ :: _) _ _); refine wpList_box0 (by rfl) 42 (.tmp 1) (by rfl) vs (by rfl) ?_; intro w1 hL1 hb1 hs1
     clear hs1
     have ha1 := hal _ hb1)
  | ((with_reducible show wpList _ _ _ (Oper.mk _ (Op.load 42 _) _ _ _ _ :: _) _ _); refine wpList_load_blk (by rfl) (.tmp 4) 42 (by rfl) _ 0 35 (by rfl) agg_ptr size_ptr hL1 _ (whole_load hvl) hvl ?_)
  | ((with_reducible show wpList _ _ _ (Oper.mk _ (Op.load 42 _) _ _ _ _ :: _) _ _); refine wpList_load_blk (by rfl) (.tmp 4) 42 (by rfl) _ 0 35 (by rfl) agg_ptr size_ptr hL2 _ (whole_load hvl) hvl ?_)
  | (go_at_call 106; go_must (refine ha1.mono ?_); rintro e w2 ⟨rfl, hb2⟩
     have hL2 := hL1.stays hb2
     have hb2' := below_then hb1 hb2)
  | (go_at_call 87; go_must (refine (hho _).mono ?_); rintro e w3 ⟨rfl, hb3⟩
     have hL3 := hL2.stays hb3
     have hb3' := below_then hb2' hb3))
 go_ret2
 exact ⟨rfl, hb3'⟩
set_option maxHeartbeats 8000000 in
theorem bfix_sum (h : Bk B w F k p g S l t) (hln : S.ws.length ≤ 800000) (hV : Vars w) (hB2 : 2 ≤ B) (q : Pt) (hq : q.ok) (a : Option Addr) (c : Nat) (bs : List Int) (hB : Bs w a c bs) (he : okK S q = 0) (hh : q.hole = false) (h256 : bs.length = 256) (hsum : (shaOf bs == q.h) = false) :
 Calls Tryd.prog 55 #[.pointer (some ⟨k, 0, none⟩), .agg q.vs.toArray, .slice a 256 c] w fun e w' => e = .returned (.tuple #[.int .i64 (0), .int .i64 14]) ∧ Below w.heap.size w w' := by
 have hal := fun u (hu : Below w.heap.size w u) => allows_run (h.stays hu) (by omega) q hq
 have hho := fun u => isHole_run q hq u
 have hsm : ∀ u, Below w.heap.size w u → Calls Tryd.prog 96 #[.slice a 256 c] u fun e w' => e = .returned (.agg ((shaOf bs).map (Value.int .u8)).toArray) ∧ Below u.heap.size u w' := fun u hu => by
  have := sum_run a c bs u (hB.stays hu) (hV.stays hu) (by omega)
  rw [h256] at this
  exact this
 have heq : ∀ u, (Op.equalIn 10000 39 (.agg ((shaOf bs).map (Value.int .u8)).toArray) (.agg (q.h.map (Value.int .u8)).toArray)).run Tryd.prog u = .ok (shaOf bs == q.h) u := fun u => equal_ints Tryd.underlying39 Tryd.underlying5 sizes5 9998 _ _ (shaOf_length _) hq.len u
 rw [hsum] at heq
 have HH : Hid (q.h.map (Value.int .u8) = (q.vs.drop 0).take 32) := Pt.vs_hash hq
 obtain ⟨hs, hhs⟩ : ∃ hs, hs = q.h.map (Value.int .u8) := ⟨_, rfl⟩
 obtain ⟨ss, hss⟩ : ∃ ss, ss = (shaOf bs).map (Value.int .u8) := ⟨_, rfl⟩
 have hhl : hs.length = 32 := by rw [hhs, List.length_map, hq.len]
 rw [← hss] at heq hsm
 rw [← hhs] at heq HH
 have hvl := Pt.vs_len hq
 obtain ⟨vs, hvs⟩ : ∃ vs, vs = q.vs := ⟨_, rfl⟩
 rw [← hvs] at hal hho hvl HH ⊢
 rw [he] at hal
 rw [hh] at hho
 clear he hvs hh hss hhs hsum
 go_enter Tryd.func55, Tryd.ntmps55
 go_wp2_with (first
  | ((with_reducible show wpList _ _ _ (Oper.mk _ (Op.box _ _) _ _ _ _ :: _) _ _); refine wpList_box0 (by rfl) 42 (.tmp 1) (by rfl) vs (by rfl) ?_; intro w1 hL1 hb1 hs1
     clear hs1
     have ha1 := hal _ hb1)
  | ((with_reducible show wpList _ _ _ (Oper.mk _ (Op.load 42 _) _ _ _ _ :: _) _ _); refine wpList_load_blk (by rfl) (.tmp 4) 42 (by rfl) _ 0 35 (by rfl) agg_ptr size_ptr hL1 _ (whole_load hvl) hvl ?_)
  | ((with_reducible show wpList _ _ _ (Oper.mk _ (Op.load 42 _) _ _ _ _ :: _) _ _); refine wpList_load_blk (by rfl) (.tmp 4) 42 (by rfl) _ 0 35 (by rfl) agg_ptr size_ptr hL2 _ (whole_load hvl) hvl ?_)
  | (go_at_call 106; go_must (refine ha1.mono ?_); rintro e w2 ⟨rfl, hb2⟩
     have hL2 := hL1.stays hb2
     have hb2' := below_then hb1 hb2)
  | (go_at_call 87; go_must (refine (hho _).mono ?_); rintro e w3 ⟨rfl, hb3⟩
     have hL3 := hL2.stays hb3
     have hb3' := below_then hb2' hb3))
 have hld : ∀ u, Below w3.heap.size w3 u → (Instr.loadAt 39 (.pointer (some ⟨w.heap.size, 0, none⟩))).run Tryd.prog u = .ok (.agg hs.toArray) u := fun u hu => run_load_blk agg_hsh size_hash (hL3.stays hu) HH.out hhl
 have hsum3 : ∀ u, Below w3.heap.size w3 u → Calls Tryd.prog 96 #[.slice a 256 c] u fun e w' => e = .returned (.agg ss.toArray) ∧ Below u.heap.size u w' := fun u hu => hsm u (below_then hb3' hu)
 have HEQ : Hid (∀ u, (Op.equalIn 10000 39 (.agg ss.toArray) (.agg hs.toArray)).run Tryd.prog u = .ok false u) := heq
 clear heq hsm
 refine UpT.wp_region_tail 4 (UpT.tell [(1, isV (.agg ss.toArray))]) (fun _ => false) (by kernel_rfl) (by kernel_rfl) (UpT.tell_steady _ (by
  intro p hp
  simp only [List.mem_cons, List.not_mem_nil, or_false] at hp
  rcases hp with rfl <;> first | exact isV_steady _ | exact slB_steady _ _)) ?_
 simp only [List.take_succ_cons, List.take_zero]
 refine UpT.wpUp_pu ?_
 simp only [Act.put, sTA, sT0, sT1]
 refine UpT.wpUp_call _ 96 #[.slice a 256 c] (by rfl) (by rfl) (by rfl) (fun wz => by go_simp) (fun wz hp => calls_isV (hsum3 wz hp.1)) ?_
 rintro v ⟨u, _, hf⟩
 obtain rfl := hf.of 1 v _ rfl rfl
 clear hf
 simp only [Act.put, sTA, sT0, sT1]
 refine UpT.wpUp_pu ?_
 simp only [Act.put, sTA, sT0, sT1]
 refine UpT.wpUp_pure (.agg hs.toArray) (by rfl) (by rfl) (fun wz hp => exec_load (by rfl) (by rfl) (hld wz hp.1)) ?_
 simp only [Act.put, sTA, sT0, sT1]
 refine UpT.wpUp_end ?_
 intro w5 hb5 hf
 clear hf
 simp only [List.drop_succ_cons, List.drop_zero]
 have hL5 := hL3.stays hb5
 have hb5' := below_then hb3' hb5
 have heq := HEQ.out
 go_wp2
 go_ret2
 exact ⟨rfl, hb5'⟩
set_option maxHeartbeats 8000000 in
theorem bfix_go (h : Bk B w F k p g S l t) (hln : S.ws.length ≤ 800000) (hV : Vars w) (hB2 : 2 ≤ B) (q : Pt) (hq : q.ok) (a : Option Addr) (c : Nat) (bs : List Int) (hB : Bs w a c bs) (hnF : ∀ x, a = some x → ¬ F x.block) (he : okK S q = 0) (hh : q.hole = false) (h256 : bs.length = 256) (hsum : (shaOf bs == q.h) = true) :
 Calls Tryd.prog 55 #[.pointer (some ⟨k, 0, none⟩), .agg q.vs.toArray, .slice a 256 c] w fun e w' => e = .returned (.tuple #[.int .i64 ((restK S q bs).1.2), .int .i64 (restK S q bs).2]) ∧ Then F w w' p (restK S q bs).1.1 := by
 have hoff := (okK_zero he).1
 have hrs : ∀ u, Below w.heap.size w u → Calls Tryd.prog 108 #[.pointer (some ⟨k, 0, none⟩), .agg q.vs.toArray, .slice a 256 c] u fun e w' => e = .returned (.tuple #[.int .i64 ((restK S q bs).1.2 : Int), .int .i64 (restK S q bs).2]) ∧ Then F w w' p (restK S q bs).1.1 := fun u hu => by
  refine (restore_run (h.stays hu) (by omega) (hV.stays hu) hB2 hoff q hq a c bs (hB.stays hu) h256 hnF).mono ?_
  rintro e w' ⟨rfl, ht⟩
  exact ⟨rfl, then_below hu ht⟩
 have hal := fun u (hu : Below w.heap.size w u) => allows_run (h.stays hu) (by omega) q hq
 have hho := fun u => isHole_run q hq u
 have hsm : ∀ u, Below w.heap.size w u → Calls Tryd.prog 96 #[.slice a 256 c] u fun e w' => e = .returned (.agg ((shaOf bs).map (Value.int .u8)).toArray) ∧ Below u.heap.size u w' := fun u hu => by
  have := sum_run a c bs u (hB.stays hu) (hV.stays hu) (by omega)
  rw [h256] at this
  exact this
 have heq : ∀ u, (Op.equalIn 10000 39 (.agg ((shaOf bs).map (Value.int .u8)).toArray) (.agg (q.h.map (Value.int .u8)).toArray)).run Tryd.prog u = .ok (shaOf bs == q.h) u := fun u => equal_ints Tryd.underlying39 Tryd.underlying5 sizes5 9998 _ _ (shaOf_length _) hq.len u
 rw [hsum] at heq
 have HH : Hid (q.h.map (Value.int .u8) = (q.vs.drop 0).take 32) := Pt.vs_hash hq
 obtain ⟨hs, hhs⟩ : ∃ hs, hs = q.h.map (Value.int .u8) := ⟨_, rfl⟩
 obtain ⟨ss, hss⟩ : ∃ ss, ss = (shaOf bs).map (Value.int .u8) := ⟨_, rfl⟩
 have hhl : hs.length = 32 := by rw [hhs, List.length_map, hq.len]
 rw [← hss] at heq hsm
 rw [← hhs] at heq HH
 have hvl := Pt.vs_len hq
 obtain ⟨vs, hvs⟩ : ∃ vs, vs = q.vs := ⟨_, rfl⟩
 rw [← hvs] at hal hho hvl hrs HH ⊢
 rw [he] at hal
 rw [hh] at hho
 obtain ⟨N, hN⟩ : ∃ N, N = (restK S q bs).1.2 := ⟨_, rfl⟩
 obtain ⟨E, hE⟩ : ∃ E, E = (restK S q bs).2 := ⟨_, rfl⟩
 rw [← hN, ← hE] at hrs ⊢
 clear he hvs hh hss hhs hsum hoff hN hE
 go_enter Tryd.func55, Tryd.ntmps55
 go_wp2_with (first
  | ((with_reducible show wpList _ _ _ (Oper.mk _ (Op.box _ _) _ _ _ _ :: _) _ _); refine wpList_box0 (by rfl) 42 (.tmp 1) (by rfl) vs (by rfl) ?_; intro w1 hL1 hb1 hs1
     clear hs1
     have ha1 := hal _ hb1)
  | ((with_reducible show wpList _ _ _ (Oper.mk _ (Op.load 42 _) _ _ _ _ :: _) _ _); refine wpList_load_blk (by rfl) (.tmp 4) 42 (by rfl) _ 0 35 (by rfl) agg_ptr size_ptr hL1 _ (whole_load hvl) hvl ?_)
  | ((with_reducible show wpList _ _ _ (Oper.mk _ (Op.load 42 _) _ _ _ _ :: _) _ _); refine wpList_load_blk (by rfl) (.tmp 4) 42 (by rfl) _ 0 35 (by rfl) agg_ptr size_ptr hL2 _ (whole_load hvl) hvl ?_)
  | (go_at_call 106; go_must (refine ha1.mono ?_); rintro e w2 ⟨rfl, hb2⟩
     have hL2 := hL1.stays hb2
     have hb2' := below_then hb1 hb2)
  | (go_at_call 87; go_must (refine (hho _).mono ?_); rintro e w3 ⟨rfl, hb3⟩
     have hL3 := hL2.stays hb3
     have hb3' := below_then hb2' hb3))
 have hld : ∀ u, Below w3.heap.size w3 u → (Instr.loadAt 39 (.pointer (some ⟨w.heap.size, 0, none⟩))).run Tryd.prog u = .ok (.agg hs.toArray) u := fun u hu => run_load_blk agg_hsh size_hash (hL3.stays hu) HH.out hhl
 have hsum3 : ∀ u, Below w3.heap.size w3 u → Calls Tryd.prog 96 #[.slice a 256 c] u fun e w' => e = .returned (.agg ss.toArray) ∧ Below u.heap.size u w' := fun u hu => hsm u (below_then hb3' hu)
 have HEQ : Hid (∀ u, (Op.equalIn 10000 39 (.agg ss.toArray) (.agg hs.toArray)).run Tryd.prog u = .ok true u) := heq
 clear heq hsm
 refine UpT.wp_region_tail 4 (UpT.tell [(1, isV (.agg ss.toArray))]) (fun _ => false) (by kernel_rfl) (by kernel_rfl) (UpT.tell_steady _ (by
  intro p hp
  simp only [List.mem_cons, List.not_mem_nil, or_false] at hp
  rcases hp with rfl <;> first | exact isV_steady _ | exact slB_steady _ _)) ?_
 simp only [List.take_succ_cons, List.take_zero]
 refine UpT.wpUp_pu ?_
 simp only [Act.put, sTA, sT0, sT1]
 refine UpT.wpUp_call _ 96 #[.slice a 256 c] (by rfl) (by rfl) (by rfl) (fun wz => by go_simp) (fun wz hp => calls_isV (hsum3 wz hp.1)) ?_
 rintro v ⟨u, _, hf⟩
 obtain rfl := hf.of 1 v _ rfl rfl
 clear hf
 simp only [Act.put, sTA, sT0, sT1]
 refine UpT.wpUp_pu ?_
 simp only [Act.put, sTA, sT0, sT1]
 refine UpT.wpUp_pure (.agg hs.toArray) (by rfl) (by rfl) (fun wz hp => exec_load (by rfl) (by rfl) (hld wz hp.1)) ?_
 simp only [Act.put, sTA, sT0, sT1]
 refine UpT.wpUp_end ?_
 intro w5 hb5 hf
 clear hf
 simp only [List.drop_succ_cons, List.drop_zero]
 have hL5 := hL3.stays hb5
 have hb5' := below_then hb3' hb5
 have heq := HEQ.out
 have hr5 := hrs _ hb5'
 go_wp2_with (first
  | ((with_reducible show wpList _ _ _ (Oper.mk _ (Op.load 42 _) _ _ _ _ :: _) _ _); refine wpList_load_blk (by rfl) (.tmp 4) 42 (by rfl) _ 0 35 (by rfl) agg_ptr size_ptr hL5 _ (whole_load hvl) hvl ?_)
  | (go_at_call 108; go_must (refine hr5.mono ?_); rintro e w6 ⟨rfl, ht6⟩))
 go_ret2
 exact ⟨rfl, ht6⟩
theorem bfix_run (h : Bk B w F k p g S l t) (hln : S.ws.length ≤ 800000) (hV : Vars w) (hB2 : 2 ≤ B) (q : Pt) (hq : q.ok) (a : Option Addr) (c : Nat) (bs : List Int) (hB : Bs w a c bs) (hnF : bs ≠ [] → ∀ x, a = some x → ¬ F x.block) :
 Calls Tryd.prog 55 #[.pointer (some ⟨k, 0, none⟩), .agg q.vs.toArray, .slice a bs.length c] w fun e w' => e = .returned (.tuple #[.int .i64 ((fixK S q bs).1.2), .int .i64 (fixK S q bs).2]) ∧ BThen B F w w' k p g (fixK S q bs).1.1 l t := by
 by_cases he : okK S q = 0
 · cases hh : q.hole
   · by_cases h256 : bs.length = 256
     · cases hs : (shaOf bs == q.h)
       · have hv : fixK S q bs = ((S, 0), 14) := by unfold fixK; rw [if_neg (by simpa using he), hh, if_neg (by simp [h256]), if_pos (by simpa using hs)]
         rw [hv, h256]
         exact (bfix_sum h hln hV hB2 q hq a c bs hB he hh h256 hs).mono fun e w' hh => ⟨hh.1, bthen_same h hh.2⟩
       · have hv : fixK S q bs = restK S q bs := by unfold fixK; rw [if_neg (by simpa using he), hh, if_neg (by simp [h256]), if_neg (by simpa using hs)]
         rw [hv, h256]
         exact (bfix_go h hln hV hB2 q hq a c bs hB (hnF (by intro e; rw [e] at h256; simp at h256)) he hh h256 hs).mono fun e w' hh => ⟨hh.1, bthen_dk h h.base hh.2 (by rw [restK_laid])⟩
     · have hv : fixK S q bs = ((S, 0), 1) := by unfold fixK; rw [if_neg (by simpa using he), if_pos (.inr h256)]
       rw [hv]
       exact (bfix_len h hln hV hB2 q hq a c bs hB he hh h256).mono fun e w' hh => ⟨hh.1, bthen_same h hh.2⟩
   · have hv : fixK S q bs = ((S, 0), 1) := by unfold fixK; rw [if_neg (by simpa using he), if_pos (.inl hh)]
     rw [hv]
     exact (bfix_hole h hln hV hB2 q hq a c bs hB he hh).mono fun e w' hh => ⟨hh.1, bthen_same h hh.2⟩
 · have hv : fixK S q bs = ((S, 0), okK S q) := by unfold fixK; rw [if_pos he]
   rw [hv]
   exact (bfix_err h hln hV hB2 q hq a c bs hB he).mono fun e w' hh => ⟨hh.1, bthen_same h hh.2⟩
end
end Go.Proofs.YthbldjnpnligpaaDoor
