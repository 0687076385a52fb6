/-
 The document's bank: Put, by Sep.
-/
import Derived.Test.YthbldjnpnligpaaDoorB06
import Derived.Test.YthbldjnpnligpaaDoorB36
import Derived.Test.YthbldjnpnligpaaDoorB29
import Derived.Test.YthbldjnpnligpaaDoorB37
import Derived.Test.YthbldjnpnligpaaDoorB31
import Derived.Test.YthbldjnpnligpaaDoorB21
import Derived.Test.YthbldjnpnligpaaDoorB28
import Derived.Deep.CutRange
namespace Go.Proofs.YthbldjnpnligpaaDoor
set_option linter.unusedSimpArgs false
set_option linter.unusedVariables false
set_option maxRecDepth 100000
open Go.RowKit
section
variable {w w' : World} {G G' : Nat → Prop} {cs cs' : List Value} {S S' : DS} {l l' : List Bool} {t : Nat}
theorem nums_ns {base : Nat} {v : Value} {xs : List Nat} (h : Nums base w v xs) (hr : ∀ x ∈ xs, x < 4294967296) (h0 : xs ≠ []) : ∃ b off c, v = .slice (some ⟨b, off, none⟩) xs.length c ∧ Ns w b off xs ∧ base ≤ b := by
 obtain ⟨a, c, rfl⟩ := h.form
 obtain ⟨_, hu⟩ := h.us hr
 rcases hu.lay with h1 | ⟨b, off, rfl, hc⟩
 · exact absurd h1 h0
 · have hlt := World.block_lt_of_cell? w _ (hc 0 (List.length_pos_iff.2 h0))
   exact ⟨b, off, c, rfl, ⟨hlt, hc⟩, (h.lt rfl).1⟩
def atK (h : List Int) (t : Nat) (xs : List Nat) (i : Nat) : Pt := ⟨h, t, if 0 < i then xs.getD 0 0 else 0, if 1 < i then xs.getD 1 0 else 0⟩
theorem atK_0 {h : List Int} (hl : h.length = 32) (t : Nat) (xs : List Nat) : (atK h t xs 0).vs.set 33 (.int .u32 ((xs.getD 0 0 : Nat) : Int)) = (atK h t xs 1).vs := Pt.vs_setx hl t 0 0 _
theorem atK_1 {h : List Int} (hl : h.length = 32) (t : Nat) (xs : List Nat) : (atK h t xs 1).vs.set 34 (.int .u32 ((xs.getD 1 0 : Nat) : Int)) = (atK h t xs 2).vs := Pt.vs_sety hl t _ 0 _
theorem atK_len {h : List Int} (hl : h.length = 32) (t : Nat) (xs : List Nat) (i : Nat) : (atK h t xs i).vs.length = 35 := by unfold atK Pt.vs; simp [hl]
theorem put_off {b : List Int} {cp : Int} (h : S.off = true) : putK S l t b cp = ((S, l), Pt.zero, 8) := by unfold putK; rw [if_pos h]
theorem put_arg {b : List Int} {cp : Int} (h : S.off = false) (h1 : b.length ≠ 256 ∨ cp < 1 ∨ 2 < cp) : putK S l t b cp = ((S, l), Pt.zero, 1) := by unfold putK; rw [h, if_neg (by decide), if_pos h1]
theorem put_full {b : List Int} {cp : Int} (h : S.off = false) (hl : b.length = 256) (h1 : 1 ≤ cp ∧ cp ≤ 2) (h2 : (takeL l cp).2.2 ≠ 0) : putK S l t b cp = ((S, l), Pt.zero, ((takeL l cp).2.2 : Int)) := by
 unfold putK; rw [h, if_neg (by decide), if_neg (by omega), if_pos h2]
theorem put_bad {b : List Int} {cp : Int} {S1 : DS} {E : Int} (h : S.off = false) (hl : b.length = 256) (h1 : 1 ≤ cp ∧ cp ≤ 2) (h2 : (takeL l cp).2.2 = 0) (h3 : wrK b S (takeL l cp).2.1 = (S1, E)) (h4 : E ≠ 0) : putK S l t b cp = ((S1, l), Pt.zero, E) := by
 unfold putK; rw [h, if_neg (by decide), if_neg (by omega), if_neg (by simpa using h2), h3, if_pos h4]
theorem put_good {b : List Int} {cp : Int} {S1 : DS} (h : S.off = false) (hl : b.length = 256) (h1 : 1 ≤ cp ∧ cp ≤ 2) (h2 : (takeL l cp).2.2 = 0) (h3 : wrK b S (takeL l cp).2.1 = (S1, 0)) : putK S l t b cp = ((S1, (takeL l cp).1), atK (shaOf b) t (takeL l cp).2.1 cp.toNat, 0) := by
 have hc := takeL_count h2
 unfold putK; rw [h, if_neg (by decide), if_neg (by omega), if_neg (by simpa using h2), h3, if_neg (by simp)]
 unfold atK
 have e0 : 0 < cp.toNat := by omega
 rw [if_pos e0]
 by_cases e1 : 1 < cp.toNat
 · rw [if_pos e1]
 · rw [if_neg e1, show (takeL l cp).2.1.getD 1 0 = 0 by rw [List.getD_eq_getElem?_getD, List.getElem?_eq_none (by omega)]; rfl]
theorem wr_next {b : List Int} {xs : List Nat} {S' S1 : DS} {i : Nat} (hi : i < xs.length) (h : wrK b S (xs.take i) = (S', 0)) (h1 : (S'.write ((xs.getD i 0 : Nat) : Int) b).1 = S1) (h2 : (S'.write ((xs.getD i 0 : Nat) : Int) b).2 = 0) : wrK b S (xs.take (i + 1)) = (S1, 0) := by
 have e : xs.take (i + 1) = xs.take i ++ [xs.getD i 0] := by rw [List.take_succ_eq_append_getElem hi]; simp [List.getD, hi]
 rw [e, wrK_fst _ _ _ _ _ h]
 simp only [wrK]
 rw [if_pos h2, h1]
theorem wr_stop {b : List Int} {xs : List Nat} {S' S1 : DS} {i : Nat} {E : Int} (hi : i < xs.length) (h : wrK b S (xs.take i) = (S', 0)) (h1 : (S'.write ((xs.getD i 0 : Nat) : Int) b).1 = S1) (h2 : (S'.write ((xs.getD i 0 : Nat) : Int) b).2 = E) (h0 : E ≠ 0) : wrK b S xs = (S1, E) := by
 have e : xs = xs.take i ++ xs.getD i 0 :: xs.drop (i + 1) := by
  have h9 : xs.getD i 0 = xs[i] := by simp [List.getD, hi]
  rw [h9, ← List.drop_eq_getElem_cons hi, List.take_append_drop]
 rw [e, wrK_bad _ _ _ _ _ _ h (by rw [h2]; exact h0), ← h1, ← h2]
theorem run_load_u {P : Program} {w : World} {t : TypeId} {b off : Nat} {v : Value} (hT : Ty1 P t) (hc : w.cell? ⟨b, off, none⟩ = some v) : (Instr.loadAt t (.pointer (some ⟨b, off, none⟩))).run P w = .ok v w := by
 simp [Instr.loadAt, Instr.sureAddr, loadVar, hT.1, Sem.run_bind, hc]
theorem wpList_load_r {P : Program} {w : World} {ops : Array Oper} {rest : List Oper} {o : Oper} {a : Act} {Q : Exit → Act → World → Prop} {t : TypeId} {x : Operand} {V v : Value} (hgd : o.guard = none) (ho : o.op = Op.load t x) (hx : a.eval x = V) (hr : (Instr.loadAt t V).run P w = .ok v w) (hk : wpList P ops Q rest (a.put o.dst v) w) : wpList P ops Q (o :: rest) a w := by
 refine wpList_plain hgd fun K hK => ?_
 unfold Oper.wp execOp
 simp only [ho, hx, Sem.run_bind, Sem.run_pure, Result.andThen_ok, hr]
 exact hK _ _ hk
def early (S : DS) (n : Nat) (cp E : Int) : Prop := (S.off = true ∧ E = 8) ∨ (S.off = false ∧ n ≠ 256 ∧ E = 1) ∨ (S.off = false ∧ n = 256 ∧ cp < 1 ∧ E = 1) ∨ (S.off = false ∧ n = 256 ∧ ¬ cp < 1 ∧ 2 < cp ∧ E = 1)
set_option maxHeartbeats 8000000 in
theorem rpt_no (h : RB w G cs S l t) (a : Option Addr) (c n : Nat) (cp E : Int) (hE : early S n cp E) : Calls Tryd.prog 58 #[.agg cs.toArray, .slice a n c, .int .i64 cp] w fun e w' => ∃ cs', e = .returned (.tuple #[.agg cs'.toArray, .agg Pt.zero.vs.toArray, .int .i64 E]) ∧ RBThen G w w' cs' S l t := by
 have hcv := Vals.bank h
 have HO : Hid (cs[4]? = some (.bool S.off)) := h.off
 have hs := h.sep
 obtain ⟨of, hof⟩ : ∃ of, of = S.off := ⟨_, rfl⟩
 unfold early at hE
 rw [← hof] at HO hE
 obtain ⟨zb, hze⟩ : ∃ zb, zb = [Value.slice none 0 0, .slice none 0 0, .bool false, .int .i64 0, .bool false, .slice none 0 0, .int .u32 0] := ⟨_, rfl⟩
 have hal := al_rbank1
 rw [← hze] at hal
 obtain ⟨zp, hzp⟩ : ∃ zp, zp = Pt.zero.vs := ⟨_, rfl⟩
 have halp := al_ptrz
 have hbp := build_ptr0
 rw [← hzp] at halp hbp ⊢
 have hzv := halp.2
 clear hze hzp hof h
 rcases hE with ⟨rfl, rfl⟩ | ⟨rfl, hn, rfl⟩ | ⟨rfl, rfl, hc, rfl⟩ | ⟨rfl, rfl, hc, hc2, rfl⟩
 all_goals
  try have hn1 : ¬ (n : Int) = 256 := by omega
  try have hd1 : decide (cp < 1) = true := by simp; omega
  try have hd1 : decide (cp < 1) = false := by simp; omega
  try have hd2 : decide (2 < cp) = true := by simp; omega
  go_enter Tryd.func58, Tryd.ntmps58
  go_wp2_with (first
   | (refine sep_box hs rfl rfl (by rfl) hcv ?_; clear hs; intro w1 gK hs)
   | (refine sep_alloc hs rfl rfl hal ?_; clear hs; intro w1 gR hs)
   | (refine sep_alloc hs rfl rfl halp ?_; clear hs; intro w1 gQ hs)
   | (refine sep_load1 hs rfl rfl (by rfl) (by repeat (first | exact List.Mem.head _ | apply List.Mem.tail)) ty1_boolz HO.out ?_)
   | (refine sep_loadw hs rfl rfl (by rfl) (by repeat (first | exact List.Mem.head _ | apply List.Mem.tail)) ty_rbank ?_)
   | (refine wpList_build0 (by rfl) 42 (by rfl) _ hbp ?_)
   | (refine sep_storew hs rfl rfl (by rfl) (by rfl) (by repeat (first | exact Upd.head | apply Upd.tail)) ty_rbank hcv ?_; clear hs; intro w1 hs)
   | (refine sep_storew hs rfl rfl (by rfl) (by rfl) (by repeat (first | exact Upd.head | apply Upd.tail)) ty_ptrz hzv ?_; clear hs; intro w1 hs))
  exact sep_ret_cct2 hs rfl rfl (by rfl) (by rfl) (by rfl) ty_rbank ty_ptrz (by repeat (first | exact List.Mem.head _ | apply List.Mem.tail)) (by repeat (first | exact List.Mem.head _ | apply List.Mem.tail)) ⟨cs, rfl, hs.rdone⟩
set_option maxHeartbeats 8000000 in
theorem rpt_few (h : RB w G cs S l t) (a : Option Addr) (c m : Nat) (hm : m = 1 ∨ m = 2) (hoff : S.off = false) (E : Int) (hE : ((takeL l (m : Int)).2.2 : Int) = E) (hE0 : E ≠ 0) : Calls Tryd.prog 58 #[.agg cs.toArray, .slice a 256 c, .int .i64 (m : Int)] w fun e w' => ∃ cs', e = .returned (.tuple #[.agg cs'.toArray, .agg Pt.zero.vs.toArray, .int .i64 E]) ∧ RBThen G w w' cs' S l t := by
 have hcv := Vals.bank h
 have HO : Hid (cs[4]? = some (.bool false)) := by rw [← hoff]; exact h.off
 have hmv : ((cs.drop 5).take 1).length = 1 := by simp [hcv.1]
 obtain ⟨mv, hme⟩ : ∃ mv, mv = (cs.drop 5).take 1 := ⟨_, rfl⟩
 have HMV : Hid (mv = (cs.drop 5).take 1) := hme
 rw [← hme] at hmv
 have htk : ∀ u N, RS w u G N [] cs S l t → Calls Tryd.prog 109 #[.agg mv.toArray, .int .i64 (m : Int)] u fun e w' => ∃ v1 v2, e = .returned (.tuple #[.agg #[v1], v2, .int .i64 E]) ∧ v1.oneCell' = true ∧ Below u.heap.size u w' := fun u N h1 => by
  refine (h1.take_run (m : Int) hme).mono ?_
  rintro e w' (⟨_, v1, v2, rfl, k1, k2⟩ | ⟨k0, _⟩)
  · exact ⟨v1, v2, by rw [hE], k1, k2⟩
  · rw [k0] at hE; exact absurd hE.symm hE0
 have hs := h.sep
 obtain ⟨zb, hze⟩ : ∃ zb, zb = [Value.slice none 0 0, .slice none 0 0, .bool false, .int .i64 0, .bool false, .slice none 0 0, .int .u32 0] := ⟨_, rfl⟩
 have hal := al_rbank1
 rw [← hze] at hal
 obtain ⟨zp, hzp⟩ : ∃ zp, zp = Pt.zero.vs := ⟨_, rfl⟩
 have halp := al_ptrz
 have hbp := build_ptr0
 rw [← hzp] at halp hbp ⊢
 have hzv := halp.2
 have hm1 : decide ((m : Int) < 1) = false := by simp; omega
 have hm2 : decide (2 < (m : Int)) = false := by simp; omega
 have hm3 : ¬ (m : Int) < 1 := by omega
 have hm4 : ¬ 2 < (m : Int) := by omega
 have hm5 : ¬ 2 < m := by omega
 clear hze hzp h hE hme hm
 go_enter Tryd.func58, Tryd.ntmps58
 go_wp2_with (first
  | (refine sep_box hs rfl rfl (by rfl) hcv ?_; clear hs; intro w1 gK hs)
  | (refine sep_alloc hs rfl rfl hal ?_; clear hs; intro w1 gR hs)
  | (refine sep_alloc hs rfl rfl halp ?_; clear hs; intro w1 gQ hs)
  | (refine sep_load1 hs rfl rfl (by rfl) (by repeat (first | exact List.Mem.head _ | apply List.Mem.tail)) ty1_boolz HO.out ?_)
  | (refine sep_load hs rfl rfl (by rfl) (by repeat (first | exact List.Mem.head _ | apply List.Mem.tail)) ty_rmap HMV.out hmv ?_)
  | (go_at_call 109; go_must (refine (htk _ _ hs.rs).mono ?_); rintro e w1 ⟨v1, v2, rfl, hv1, hb1⟩; replace hs := hs.stays hb1; have hqv : Vals 1 [v1] := ⟨rfl, fun v hv => by rw [List.mem_singleton.1 hv]; exact hv1⟩; clear hb1)
  | (refine sep_alloc hs rfl rfl al_rmap1 ?_; clear hs; intro w1 gM hs)
  | (refine sep_storew hs rfl rfl (by rfl) (by rfl) (by repeat (first | exact Upd.head | apply Upd.tail)) ty_rmap hqv ?_; clear hs; intro w1 hs)
  | (refine sep_loadw hs rfl rfl (by rfl) (by repeat (first | exact List.Mem.head _ | apply List.Mem.tail)) ty_rbank ?_)
  | (refine wpList_build0 (by rfl) 42 (by rfl) _ hbp ?_)
  | (refine sep_storew hs rfl rfl (by rfl) (by rfl) (by repeat (first | exact Upd.head | apply Upd.tail)) ty_rbank hcv ?_; clear hs; intro w1 hs)
  | (refine sep_storew hs rfl rfl (by rfl) (by rfl) (by repeat (first | exact Upd.head | apply Upd.tail)) ty_ptrz hzv ?_; clear hs; intro w1 hs))
 exact sep_ret_cct2 hs rfl rfl (by rfl) (by rfl) (by rfl) ty_rbank ty_ptrz (by repeat (first | exact List.Mem.head _ | apply List.Mem.tail)) (by repeat (first | exact List.Mem.head _ | apply List.Mem.tail)) ⟨cs, rfl, hs.rdone⟩
theorem atK_more {h : List Int} (hl : h.length = 32) (t : Nat) (xs : List Nat) {i : Nat} (hi : i < 2) : (atK h t xs (i + 1)).vs = (atK h t xs i).vs.set (33 + i) (.int .u32 ((xs.getD i 0 : Nat) : Int)) := by
 rcases (show i = 0 ∨ i = 1 by omega) with rfl | rfl
 · exact (atK_0 hl t xs).symm
 · exact (atK_1 hl t xs).symm
theorem noStr_zd : noStr [Value.slice none 0 0, .slice none 0 0, .bool false, .int .i64 0, .bool false] = true := rfl
set_option maxHeartbeats 40000000 in
theorem rpt_go (h : RB w G cs S l t) (a : Option Addr) (c m : Nat) (h12 : m = 1 ∨ m = 2) (hln : S.ws.length ≤ 800000) (b : List Int) (hB : Bs w a c b) (hl : b.length = 256) (hoff : S.off = false) (ht0 : (takeL l (m : Int)).2.2 = 0) (Sf : DS) (lf : List Bool) (Pf : Pt) (Ef : Int) (hres : putK S l t b (m : Int) = ((Sf, lf), Pf, Ef)) : Calls Tryd.prog 58 #[.agg cs.toArray, .slice a 256 c, .int .i64 (m : Int)] w fun e w' => ∃ cs', e = .returned (.tuple #[.agg cs'.toArray, .agg Pf.vs.toArray, .int .i64 Ef]) ∧ RBThen G w w' cs' Sf lf t := by
 have hcv := Vals.bank h
 have HO : Hid (cs[4]? = some (.bool false)) := by rw [← hoff]; exact h.off
 have HT : Hid (cs[6]? = some (.int .u32 (t : Int))) := h.txg
 obtain ⟨mv, hmv, hmv1⟩ : ∃ mv, mv = (cs.drop 5).take 1 ∧ mv.length = 1 := ⟨_, rfl, by simp [hcv.1]⟩
 have HMV : Hid (mv = (cs.drop 5).take 1) := hmv
 have hm := h.mlen
 have hlab := h.lab
 have hxl := takeL_count ht0
 have hbd := takeL_bound l (m : Int)
 have hl1l := takeL_len l (m : Int)
 have hl1b := hlab.take (by omega) (m : Int)
 have HPB : Hid (∀ S1 E, wrK b S (takeL l (m : Int)).2.1 = (S1, E) → E ≠ 0 → ((Sf, lf), Pf, Ef) = ((S1, l), Pt.zero, E)) := fun S1 E h1 h2 => by rw [← hres]; exact put_bad hoff hl (by omega) ht0 h1 h2
 have HPG : Hid (∀ S1, wrK b S (takeL l (m : Int)).2.1 = (S1, 0) → ((Sf, lf), Pf, Ef) = ((S1, (takeL l (m : Int)).1), atK (shaOf b) t (takeL l (m : Int)).2.1 m, 0)) := fun S1 h1 => by rw [← hres]; exact put_good hoff hl (by omega) ht0 h1
 obtain ⟨xs, hxs⟩ : ∃ xs, xs = (takeL l (m : Int)).2.1 := ⟨_, rfl⟩
 obtain ⟨l1, hl1⟩ : ∃ l1, l1 = (takeL l (m : Int)).1 := ⟨_, rfl⟩
 obtain ⟨nl, hnl⟩ : ∃ nl, nl = l.length := ⟨_, rfl⟩
 have hxm : (takeL l (m : Int)).2.1.length = m := by simpa using hxl
 have htk : ∀ u N, RS w u G N [] cs S l t → Calls Tryd.prog 109 #[.agg mv.toArray, .int .i64 (m : Int)] u fun e w' => ∃ q cq lb lo lc, e = .returned (.tuple #[.agg [Value.slice (some ⟨q, 0, none⟩) nl cq].toArray, .slice (some ⟨lb, lo, none⟩) m lc, .int .i64 0]) ∧ Ns w' lb lo xs ∧ u.heap.size ≤ lb ∧ RS w w' G N [(q, cq, l1)] cs S l t ∧ Below u.heap.size u w' := fun u N hu => (hu.take_run (m : Int) hmv).mono fun e w' hh => by
  rcases hh with ⟨k0, _⟩ | ⟨_, q, cq, v, k1, k2, k3, k4⟩
  · exact absurd ht0 k0
  · obtain ⟨lb, lo, lc, rfl, k5, k6⟩ := nums_ns k2 (fun x hx => by have := (hbd x hx).1; omega) (fun e => by rw [e] at hxm; simp at hxm; omega)
    rw [hxm] at k1
    exact ⟨q, cq, lb, lo, lc, by rw [k1, hnl], by rw [hxs]; exact k5, k6, by rw [hl1]; exact k3, k4⟩
 rw [← hxs] at hxm hbd HPB HPG
 rw [← hl1] at hl1l hl1b HPG
 have HXL : Hid (xs.length = m ∧ (∀ x ∈ xs, x < 512) ∧ l1.length = l.length ∧ Lab l1 ∧ nl = l.length) := ⟨hxm, fun x hx => by have := (hbd x hx).1; omega, hl1l, hl1b, hnl⟩
 have HB : Hid (Bs w a c b ∧ 256 = b.length) := ⟨hB, hl.symm⟩
 have hsm0 : ∀ u, Below w.heap.size w u → Calls Tryd.prog 110 #[.slice a 256 c] u fun e w' => e = .returned (.agg ((shaOf b).map (Value.int .u8)).toArray) ∧ Below u.heap.size u w' := fun u hu => by
  have := rsum_run a c b u (hB.stays hu) (by omega)
  rw [hl] at this
  exact this
 obtain ⟨ss, hss⟩ : ∃ ss, ss = (shaOf b).map (Value.int .u8) := ⟨_, rfl⟩
 rw [← hss] at hsm0
 obtain ⟨pv0, hpv0⟩ : ∃ pv0, pv0 = (atK (shaOf b) t xs 0).vs := ⟨_, rfl⟩
 have HBK : Hid (∀ w, (Instr.build 42 [(0, Value.agg ss.toArray), (1, .int .u32 (t : Int))].toArray).run Tryd.prog w = .ok (.agg pv0.toArray) w) := fun w => by rw [hss, hpv0]; exact build_ptrK _ (shaOf_length _) t w
 have HPV0 : Hid (pv0 = (atK (shaOf b) t xs 0).vs) := hpv0
 have hpvv : Vals 35 pv0 := by rw [hpv0]; exact ⟨atK_len (shaOf_length _) _ _ _, Pt.vs_one _⟩
 have hs := h.sep
 have HWR : Hid (wrK b S (xs.take 0) = (S, 0) ∧ S.ws.length ≤ 800000 + 0 ∧ Vals 7 cs) := ⟨rfl, hln, hcv⟩
 have HM : Hid (m = 1 ∨ m = 2) := h12
 obtain ⟨zb, hze⟩ : ∃ zb, zb = [Value.slice none 0 0, .slice none 0 0, .bool false, .int .i64 0, .bool false, .slice none 0 0, .int .u32 0] := ⟨_, rfl⟩
 have hal := al_rbank1
 rw [← hze] at hal
 obtain ⟨zp, hzp⟩ : ∃ zp, zp = Pt.zero.vs := ⟨_, rfl⟩
 have halp := al_ptrz
 have hbp := build_ptr0
 rw [← hzp] at halp hbp
 have hzv := halp.2
 have HZP : Hid (zp = Pt.zero.vs) := hzp
 obtain ⟨zd, hzd⟩ : ∃ zd, zd = [Value.slice none 0 0, .slice none 0 0, .bool false, .int .i64 0, .bool false] := ⟨_, rfl⟩
 have hald := al_rdisk1
 have hnz := noStr_zd
 rw [← hzd] at hald hnz
 have hm1 : decide ((m : Int) < 1) = false := by simp; omega
 have hm2 : decide (2 < (m : Int)) = false := by simp; omega
 have hm3 : ¬ (m : Int) < 1 := by omega
 have hm4 : ¬ 2 < (m : Int) := by omega
 have hm5 : ¬ 2 < m := by omega
 clear hze hzp hzd hoff hmv hres hm hlab hxl hbd hl1l hl1b hss hpv0 ht0 hl hln hB hxs hl1 hnl hxm h12
 go_enter Tryd.func58, Tryd.ntmps58
 go_wp2_with (first
  | (refine sep_box hs rfl rfl (by rfl) hcv ?_; clear hs; intro w1 gK hs)
  | (refine sep_alloc hs rfl rfl hal ?_; clear hs; intro w1 gR hs)
  | (refine sep_alloc hs rfl rfl halp ?_; clear hs; intro w1 gQ hs)
  | (refine sep_load1 hs rfl rfl (by rfl) (by repeat (first | exact List.Mem.head _ | apply List.Mem.tail)) ty1_boolz HO.out ?_)
  | (refine sep_load hs rfl rfl (by rfl) (by repeat (first | exact List.Mem.head _ | apply List.Mem.tail)) ty_rmap HMV.out hmv1 ?_)
  | (go_at_call 109; go_must (refine (htk _ _ hs.rs).mono ?_); rintro e w1 ⟨q, cq, lb, lo, lc, rfl, hns, hlb, hR, hb1⟩; replace hs := (hs.rturn hb1 hR).beside (F := fun j => j = lb) (R := fun u => Ns u lb lo xs) (fun j hj => by rw [hj]; exact ⟨hns.lt, fun hj => by have := hs.mine_lt _ hj; omega⟩) hns (fun u u' hR hk hsz => hR.keepN hk hsz); have hqv : Vals 1 [Value.slice (some ⟨q, 0, none⟩) nl cq] := ⟨rfl, by simp [Value.oneCell']⟩; clear hb1 hR hns hlb)
  | (refine sep_alloc hs rfl rfl al_rmap1 ?_; clear hs; intro w1 gM hs)
  | (refine sep_storew hs rfl rfl (by rfl) (by rfl) (by repeat (first | exact Upd.head | apply Upd.tail)) ty_rmap hqv ?_; clear hs; intro w1 hs))
 have hsm : ∀ u, Below w1.heap.size w1 u → Calls Tryd.prog 110 #[.slice a 256 c] u fun e w' => e = .returned (.agg ss.toArray) ∧ Below u.heap.size u w' := fun u hu => hsm0 u (below_then hs.bbel hu)
 refine UpT.wp_region_tail 6 (UpT.tell [(1, isV (.agg ss.toArray)), (5, blkT 42 w1.heap.size zp)]) (fun i => i == 5) (by kernel_rfl) (by kernel_rfl) (UpT.tell_steady _ (by
  intro p hp
  simp only [List.mem_cons, List.not_mem_nil, or_false] at hp
  rcases hp with rfl | rfl <;> first | exact isV_steady _ | exact slB_steady _ _ | exact blkT_steady _ _ _)) ?_
 simp only [List.take_succ_cons, List.take_zero]
 iterate 1 (refine UpT.wpUp_pu ?_; simp only [Act.put, sTA, sT0, sT1])
 refine UpT.wpUp_call _ 110 #[.slice a 256 c] (by rfl) (by rfl) (by rfl) (fun wz => by go_simp) (fun wz hp => calls_isV (hsm wz hp.1)) ?_
 rintro v ⟨u, _, hf⟩
 obtain rfl := hf.of 1 v _ rfl rfl
 clear hf
 simp only [Act.put, sTA, sT0, sT1]
 iterate 1 (refine UpT.wpUp_pu ?_; simp only [Act.put, sTA, sT0, sT1])
 refine UpT.wpUp_pure (.int .u32 (t : Int)) (by rfl) (by rfl) (fun wz hp => exec_load (by rfl) (by rfl) (hs.ld1 hp.1 ty1_u32z (by repeat (first | exact List.Mem.head _ | apply List.Mem.tail)) HT.out)) ?_
 simp only [Act.put, sTA, sT0, sT1]
 refine UpT.wpUp_pure (.agg pv0.toArray) (by rfl) (by rfl) (fun wz hp => exec_buildL [(0, .tmp 48), (1, .tmp 50)] (by rfl) _ (by rfl) (HBK.out wz)) ?_
 simp only [Act.put, sTA, sT0, sT1]
 refine UpT.wpUp_make (blkT 42 w1.heap.size zp) (by rfl) (by rfl) (fun wz hp => ⟨.pointer (some ⟨wz.heap.size, 0, none⟩), wz.alloc (.cells zp.toArray 42), exec_alloc0 (by rfl) (halp.1 wz), (Below.refl _ _).alloc (Nat.le_refl _) _, ⟨_, rfl, hp.1.size, Blk.newAt rfl rfl⟩, fun _ => ⟨_, rfl, Nat.le_refl _, by simp⟩⟩) ?_
 rintro v ⟨u, _, hf⟩
 obtain ⟨gA, rfl, _, _⟩ := hf.of 5 v _ rfl rfl
 clear hf
 simp only [Act.put, sTA, sT0, sT1]
 refine UpT.wpUp_end ?_
 intro w2 hb2 hf
 obtain ⟨gB, hgE, hgl, hA⟩ := hf.of 5 _ _ rfl rfl
 cases hgE
 simp only [List.drop_succ_cons, List.drop_zero]
 replace hs := hs.addAt hb2 hA hgl hzv
 clear hf hb2 hA hgl hsm hsm0 htk
 go_wp2_with (refine sep_storew hs rfl rfl (by rfl) (by rfl) (by repeat (first | exact Upd.head | apply Upd.tail)) ty_ptrz hpvv ?_; clear hs; intro w2 hs)
 go_loopw [13] (fun x wr => ∃ (i : Nat) (cs2 : List Value) (S2 : DS) (pv : List Value), x = .int .i64 (i : Int) ∧ i ≤ m ∧ Sep w.heap.size (Besides (RI w G [(q, cq, l1)] cs2 S2 l t) (fun j => j = lb) (fun u => Ns u lb lo xs)) wr (⟨gA, 42, 35, pv⟩ :: ⟨gM, 33, 1, [Value.slice (some ⟨q, 0, none⟩) nl cq]⟩ :: ⟨gQ, 42, 35, zp⟩ :: ⟨gR, 36, 7, zb⟩ :: ⟨gK, 36, 7, cs2⟩ :: []) [] ∧ Hid (pv = (atK (shaOf b) t xs i).vs ∧ wrK b S (xs.take i) = (S2, 0) ∧ S2.ws.length ≤ 800000 + i ∧ Vals 7 cs2) ∧ Vals 35 pv) (fun x _ => m - (intOf x).toNat)
 case atStart => exact ⟨0, cs, S, pv0, rfl, by omega, hs, ⟨HPV0.out, HWR.out⟩, hpvv⟩
 case round =>
  clear hs HWR HPV0 HO HT HMV hcv hpvv hmv1
  rename_i wr hrel
  obtain ⟨i, cs2, S2, pv, rfl, hi, hs, hI, hpv⟩ := hrel
  by_cases hlt : i < m
  · have hlm : (i : Int) < (m : Int) := by omega
    have hi2 : i < 2 := by have := HM.out; omega
    have hixn : ∀ u, (Instr.indexAt 169 (.slice (some ⟨lb, lo, none⟩) m lc) (.int .i64 (i : Int))).run Tryd.prog u = .ok (.pointer (some ⟨lb, lo + i, none⟩)) u := fun u => by
        have := index_slice (P := Tryd.prog) 169 34 1 Tryd.underlying169 (by kernel_rfl) (by kernel_rfl) lb lo m lc .i64 i hlt u
        rw [Nat.mul_one] at this
        exact this
    have hixa : ∀ g u, (Instr.indexAt 40 (.pointer (some ⟨g, 33, none⟩)) (.int .i64 (i : Int))).run Tryd.prog u = .ok (.pointer (some ⟨g, 33 + i, none⟩)) u := fun g u => by
        have := index_ptr (P := Tryd.prog) (t := 40) (e := 34) (n := 2) (m := 1) (g := g) (off := 33) (K := .i64) (j := i) Tryd.underlying40 (by kernel_rfl) hi2 u
        rw [this, Nat.mul_one]
    obtain ⟨y, hy⟩ : ∃ y, y = xs.getD i 0 := ⟨_, rfl⟩
    have hy512 : y < 512 := by
        have := HXL.out.2.1 (xs.getD i 0) (by rw [List.getD_eq_getElem?_getD, List.getElem?_eq_getElem (by rw [HXL.out.1]; exact hlt)]; exact List.getElem_mem _)
        omega
    have hly : ∀ wz : World, Ns wz lb lo xs → (Instr.loadAt 34 (.pointer (some ⟨lb, lo + i, none⟩))).run Tryd.prog wz = .ok (.int .u32 (y : Int)) wz := fun wz hz => run_load_u ty1_u32z (by rw [hz.at' i (by rw [HXL.out.1]; exact hlt), hy])
    have hwy : IntKind.i64.wrap (y : Int) = (y : Int) := by first | go_num | (rw [IntKind.wrap_i64]; omega)
    have HY : Hid (y = xs.getD i 0) := hy
    obtain ⟨S1, hS1⟩ : ∃ S1, S1 = (S2.write (y : Int) b).1 := ⟨_, rfl⟩
    obtain ⟨E, hE⟩ : ∃ E, E = (S2.write (y : Int) b).2 := ⟨_, rfl⟩
    have HW : Hid ((S2.write ((xs.getD i 0 : Nat) : Int) b).1 = S1 ∧ (S2.write ((xs.getD i 0 : Nat) : Int) b).2 = E ∧ S1.ws.length ≤ S2.ws.length + 1) := ⟨by rw [← hy, hS1], by rw [← hy, hE], by rw [hS1]; exact write_len8 _ _ _⟩
    obtain ⟨dv, hdv, hdl⟩ : ∃ dv, dv = (cs2.drop 0).take 5 ∧ dv.length = 5 := ⟨_, rfl, by simp [hI.out.2.2.2.1]⟩
    have HDV : Hid (dv = (cs2.drop 0).take 5) := hdv
    have hwr : ∀ u N, RS w u G N [(q, cq, l1)] cs2 S2 l t → Below w.heap.size w u → Calls Tryd.prog 111 #[.agg dv.toArray, .int .i64 (y : Int), .slice a 256 c] u fun e w' => ∃ v, e = .returned v ∧ Below u.heap.size u w' ∧ wrT w G N [(q, cq, l1)] cs2 S1 l t E v w' := fun u N h1 h2 => h1.write_run (by have := hI.out.2.2.1; omega) (y : Int) a c b (HB.out.1.stays h2) HB.out.2 hdv hS1.symm hE.symm
    have hpv2 : Vals 35 (atK (shaOf b) t xs (i + 1)).vs := ⟨atK_len (shaOf_length _) _ _ _, Pt.vs_one _⟩
    obtain ⟨pn, hpn⟩ : ∃ pn, pn = (atK (shaOf b) t xs (i + 1)).vs := ⟨_, rfl⟩
    rw [← hpn] at hpv2
    have HPN : Hid (pn = (atK (shaOf b) t xs (i + 1)).vs) := hpn
    have HPS : Hid (pn = pv.set (33 + i) (.int .u32 (y : Int))) := by show _ = _; rw [hpn, hI.out.1, hy]; exact atK_more (shaOf_length _) t xs hi2
    clear hy hS1 hE hdv hpn
    have hcl := hI.out.2.2.2
    have HVN : Hid (∀ ds : List Value, Vals 5 ds → Vals 7 (cs2.take 0 ++ ds ++ cs2.drop (0 + 5))) := fun ds hd => ⟨by simp [hcl.1, hd.1], fun v hv => by
        rcases List.mem_append.1 hv with h1 | h1
        · rcases List.mem_append.1 h1 with h1 | h1
          · exact hcl.2 v (List.mem_of_mem_take h1)
          · exact hd.2 v h1
        · exact hcl.2 v (List.mem_of_mem_drop h1)⟩
    clear hcl
    go_upto_region 13 with (first
        | (refine wpList_load_r (by rfl) rfl (by rfl) (hly _ hs.inv.2.1) ?_)
        | (refine sep_store1 hs rfl rfl (by rfl) (by rfl) rfl rfl (off := 33 + i) (ws := pn) (by repeat (first | exact Upd.head | apply Upd.tail)) ty1_u32z.2 HPS.out (by omega) ?_; clear hs; intro w3 hs))
    simp only [Act.put, sTA, sT0, sT1]
    go_cut [14, 15] from 52 to 82 (fun p e wx => ∃ (gD : Nat) (ds cn : List Value), p = .pointer (some ⟨gD, 0, none⟩) ∧ e = .int .i64 E ∧ Vals 5 ds ∧ Hid (cn = cs2.take 0 ++ ds ++ cs2.drop (0 + 5)) ∧ Vals 7 cn ∧ Sep w.heap.size (Besides (RI w G [(q, cq, l1)] cn S1 l t) (fun j => j = lb) (fun u => Ns u lb lo xs)) wx (⟨gD, 30, 5, ds⟩ :: ⟨gA, 42, 35, pn⟩ :: ⟨gM, 33, 1, [Value.slice (some ⟨q, 0, none⟩) nl cq]⟩ :: ⟨gQ, 42, 35, zp⟩ :: ⟨gR, 36, 7, zb⟩ :: ⟨gK, 36, 7, cs2⟩ :: []) [])
    case first =>
        refine UpT.wp_region_opt 8 12 [9, 10, 11, 12, 13, 14] [9, 10, 11, 13, 14] (by rfl) (UpT.tell [(12, blkT 30 w3.heap.size zd)]) (fun i => i == 12) (by kernel_rfl) (by kernel_rfl) (UpT.tell_steady _ (by
         intro p hp
         simp only [List.mem_cons, List.not_mem_nil, or_false] at hp
         rcases hp with rfl <;> first | exact isV_steady _ | exact slB_steady _ _ | exact blkT_steady _ _ _)) ?_
        simp only [List.take_succ_cons, List.take_zero]
        iterate 1 (refine UpT.wpUp_pu ?_; simp only [Act.put, sTA, sT0, sT1])
        refine UpT.wpUp_pure (.agg dv.toArray) (by rfl) (by rfl) (fun wz hp => exec_load (by rfl) (by rfl) (hs.ldp hp.1 ty_rdisk (by repeat (first | exact List.Mem.head _ | apply List.Mem.tail)) HDV.out hdl)) ?_
        simp only [Act.put, sTA, sT0, sT1]
        iterate 3 (refine UpT.wpUp_pu ?_; simp only [Act.put, sTA, sT0, sT1])
        refine UpT.wpUp_pure (.int .u32 (y : Int)) (by rfl) (by rfl) (fun wz hp => exec_load (by rfl) (by rfl) (hly wz ((hs.stays hp.1).inv.2.1))) ?_
        simp only [Act.put, sTA, sT0, sT1]
        iterate 2 (refine UpT.wpUp_pu ?_; simp only [Act.put, sTA, sT0, sT1])
        refine UpT.wpUp_end ?_
        refine ⟨?_, ?_⟩
        · intro w4 hb4 hf
          replace hs := hs.stays hb4
          clear hf hb4
          simp only [UpT.opsAt, List.filterMap_cons, List.filterMap_nil, List.getElem?_toArray, List.getElem?_cons_zero, List.getElem?_cons_succ]
          go_wp2_with (first
           | (go_at_call 111; go_must (refine (hwr _ _ hs.brs hs.bbel).mono ?_); rintro e w5 ⟨v, rfl, hb5, ds, rfl, hdv2, hR⟩; replace hs := hs.bturn hb5 hR (fun u u' hR hk hsz => hR.keepN hk hsz); have hdsv : Vals 5 ds := hdv2; clear hb5 hR hdv2; dsimp only []; apply_assumption; refine wp_move1 rfl rfl (by rfl) ?_; simp only [Act.put, sTA, sT0, sT1]; refine wp_extract1 rfl rfl (by rfl) (by rfl) ?_; simp only [Act.put, sTA, sT0, sT1]; refine wp_extract1 rfl rfl (by rfl) (by rfl) ?_; simp only [Act.put, sTA, sT0, sT1]; refine sep_alloc hs rfl rfl hald ?_; clear hs; intro w6 gD hs; simp only [Act.put, sTA, sT0, sT1]; refine sep_storew hs rfl rfl (by rfl) (by rfl) (by repeat (first | exact Upd.head | apply Upd.tail)) ty_rdisk hdsv ?_; clear hs; intro w7 hs; go_wp2))
          dsimp only [midQ]
          try go_wp2
          go_meet
          case rel => exact ⟨gD, ds, _, rfl, rfl, hdsv, rfl, HVN.out ds hdsv, hs⟩
        · refine (UpT.wpUp_make (blkT 30 w3.heap.size zd) (by rfl) (by rfl) (fun wz hp => ⟨.pointer (some ⟨wz.heap.size, 0, none⟩), wz.alloc (.cells zd.toArray 30), exec_alloc0 (by rfl) (hald.1 wz), (Below.refl _ _).alloc (Nat.le_refl _) _, ⟨_, rfl, hp.1.size, Blk.newAt rfl rfl⟩, fun _ => ⟨_, rfl, Nat.le_refl _, by simp⟩⟩) ?_).out
          rintro v ⟨u, _, hf⟩
          obtain ⟨gD, rfl, _, _⟩ := hf.of 12 v _ rfl rfl
          clear hf
          simp only [Act.put, sTA, sT0, sT1]
          refine UpT.wpUp_end ?_
          intro w4 hb4 hf
          obtain ⟨gE, hgE, hgl, hA⟩ := hf.of 12 _ _ rfl rfl
          cases hgE
          replace hs := hs.addAt hb4 hA hgl hald.2
          clear hf hb4 hA hgl
          simp only [UpT.opsAt, List.filterMap_cons, List.filterMap_nil, List.getElem?_toArray, List.getElem?_cons_zero, List.getElem?_cons_succ]
          go_wp2_with (first
           | (go_at_call 111; go_must (refine (hwr _ _ hs.brs hs.bbel).mono ?_); rintro e w5 ⟨v, rfl, hb5, ds, rfl, hdv2, hR⟩; replace hs := hs.bturn hb5 hR (fun u u' hR hk hsz => hR.keepN hk hsz); have hdsv : Vals 5 ds := hdv2; clear hb5 hR hdv2; dsimp only []; apply_assumption; refine wp_move1 rfl rfl (by rfl) ?_; simp only [Act.put, sTA, sT0, sT1]; refine wp_extract1 rfl rfl (by rfl) (by rfl) ?_; simp only [Act.put, sTA, sT0, sT1]; refine wp_extract1 rfl rfl (by rfl) (by rfl) ?_; simp only [Act.put, sTA, sT0, sT1]; refine sep_storew hs rfl rfl (by rfl) (by rfl) (by repeat (first | exact Upd.head | apply Upd.tail)) ty_rdisk hdsv ?_; clear hs; intro w7 hs; go_wp2))
          dsimp only [midQ]
          try go_wp2
          go_meet
          case rel => exact ⟨gD, ds, _, rfl, rfl, hdsv, rfl, HVN.out ds hdsv, hs⟩
    case rest =>
        clear hs hwr
        obtain ⟨gD, ds, cn, rfl, rfl, hdsv, HCN, hcn, hs⟩ := hcut
        by_cases hE0 : E = 0
        · subst hE0
          go_wp2_with (first
           | (refine sep_storew hs rfl rfl (by rfl) (by rfl) (by repeat (first | exact Upd.head | apply Upd.tail)) ty_rdisk hdsv ?_; clear hs; intro w5 hs)
           | (refine sep_loadw hs rfl rfl (by rfl) (by repeat (first | exact List.Mem.head _ | apply List.Mem.tail)) ty_rdisk ?_)
           | (refine sep_store hs rfl rfl (by rfl) (by rfl) (off := 0) (n := 5) (us := ds) (ws := cn) (by repeat (first | exact Upd.head | apply Upd.tail)) ty_rdisk hdsv HCN.out (by omega) ?_; clear hs; intro w5 hs))
          go_roundw
          case rel => exact ⟨i + 1, cn, S1, pn, by go_num, by omega, hs.drop, ⟨HPN.out, wr_next (by rw [HXL.out.1]; exact hlt) hI.out.2.1 HW.out.1 HW.out.2.1, by have := HW.out.2.2; have := hI.out.2.2.1; omega, hcn⟩, hpv2⟩
          case measure => simp [intOf]; omega
        · have hres := HPB.out S1 E (wr_stop (by rw [HXL.out.1]; exact hlt) hI.out.2.1 HW.out.1 HW.out.2.1 hE0) hE0
          obtain ⟨h1, h2, h3⟩ : (Sf, lf) = (S1, l) ∧ Pf = Pt.zero ∧ Ef = E := by injection hres with h1 h2; injection h2 with h2 h3; exact ⟨h1, h2, h3⟩
          obtain ⟨rfl, rfl⟩ : Sf = S1 ∧ lf = l := by injection h1 with h1 h2; exact ⟨h1, h2⟩
          subst h2 h3
          go_wp2_with (first
           | (refine sep_storew hs rfl rfl (by rfl) (by rfl) (by repeat (first | exact Upd.head | apply Upd.tail)) ty_rdisk hdsv ?_; clear hs; intro w5 hs)
           | (refine sep_loadw hs rfl rfl (by rfl) (by repeat (first | exact List.Mem.head _ | apply List.Mem.tail)) (by first | exact ty_rdisk | exact ty_rbank) ?_)
           | (refine sep_store hs rfl rfl (by rfl) (by rfl) (off := 0) (n := 5) (us := ds) (ws := cn) (by repeat (first | exact Upd.head | apply Upd.tail)) ty_rdisk hdsv HCN.out (by omega) ?_; clear hs; intro w5 hs)
           | (refine wpList_build0 (by rfl) 42 (by rfl) _ hbp ?_)
           | (refine sep_storew hs rfl rfl (by rfl) (by rfl) (by repeat (first | exact Upd.head | apply Upd.tail)) ty_rbank hcn ?_; clear hs; intro w5 hs)
           | (refine sep_storew hs rfl rfl (by rfl) (by rfl) (by repeat (first | exact Upd.head | apply Upd.tail)) ty_ptrz hzv ?_; clear hs; intro w5 hs))
          exact sep_ret_cct2 hs rfl rfl (by rfl) (by rfl) (v := .int .i64 Ef) (by rfl) ty_rbank ty_ptrz (by repeat (first | exact List.Mem.head _ | apply List.Mem.tail)) (by repeat (first | exact List.Mem.head _ | apply List.Mem.tail)) ⟨cn, by rw [HZP.out], RS.done (hs.brs.drop)⟩
  · obtain rfl : i = m := by omega
    obtain ⟨hpe, hwr, hle, hcl⟩ := hI.out
    rw [List.take_of_length_le (by rw [HXL.out.1]; omega)] at hwr
    have hres := HPG.out S2 hwr
    obtain ⟨h1, h2, h3⟩ : (Sf, lf) = (S2, l1) ∧ Pf = atK (shaOf b) t xs i ∧ Ef = 0 := by injection hres with h1 h2; injection h2 with h2 h3; exact ⟨h1, h2, h3⟩
    obtain ⟨rfl, rfl⟩ : Sf = S2 ∧ lf = l1 := by injection h1 with h1 h2; exact ⟨h1, h2⟩
    subst h3
    have HPE : Hid (Pf.vs = pv) := by show _ = _; rw [h2, hpe]
    have hRS : RS w wr G _ [] (cs2.take 5 ++ [.slice (some ⟨q, 0, none⟩) l.length cq] ++ cs2.drop (5 + 1)) Sf lf t := hs.brs.setMap HXL.out.2.2.1 HXL.out.2.2.2.1
    rw [← HXL.out.2.2.2.2] at hRS
    have hcn : Vals 7 (cs2.take 5 ++ [.slice (some ⟨q, 0, none⟩) nl cq] ++ cs2.drop (5 + 1)) := ⟨by simp [hcl.1], fun v hv => by
        rcases List.mem_append.1 hv with h1 | h1
        · rcases List.mem_append.1 h1 with h1 | h1
          · exact hcl.2 v (List.mem_of_mem_take h1)
          · exact hqv.2 v h1
        · exact hcl.2 v (List.mem_of_mem_drop h1)⟩
    obtain ⟨cn, hcne⟩ : ∃ cn, cn = cs2.take 5 ++ [.slice (some ⟨q, 0, none⟩) nl cq] ++ cs2.drop (5 + 1) := ⟨_, rfl⟩
    have HCN : Hid (cn = cs2.take 5 ++ [.slice (some ⟨q, 0, none⟩) nl cq] ++ cs2.drop (5 + 1)) := hcne
    rw [← hcne] at hRS hcn
    have hsn := (hs.less RI.frame).rturn (Below.refl _ _) hRS
    clear hs
    have hs := hsn
    have HNL : ¬ (i : Int) < (i : Int) := by omega
    clear hsn hRS hcne hpe hwr hle hres h1 h2 hI
    go_wp2_with (first
        | (refine sep_loadw hs rfl rfl (by rfl) (by repeat (first | exact List.Mem.head _ | apply List.Mem.tail)) ty_rmap ?_)
        | (refine sep_store hs rfl rfl (by rfl) (by rfl) (off := 5) (n := 1) (us := [.slice (some ⟨q, 0, none⟩) nl cq]) (ws := cn) (by repeat (first | exact Upd.head | apply Upd.tail)) ty_rmap hqv HCN.out (by omega) ?_; clear hs; intro w5 hs))
    refine wp_region_any (by kernel_rfl) ?_
    change wpAny _ _ _ _ _ _ _ (World.drew _)
    replace hs := hs.stays (Below.refl _ _).drew
    refine sep_any2 0 1 (by kernel_rfl) rfl rfl (fun K hK => sep_step_loadw hs rfl rfl (by rfl) (by repeat (first | exact List.Mem.head _ | apply List.Mem.tail)) (by first | exact ty_rbank | exact ty_ptrz) (hK _ _ ?_)) (fun K hK => sep_step_loadw hs rfl rfl (by rfl) (by repeat (first | exact List.Mem.head _ | apply List.Mem.tail)) (by first | exact ty_rbank | exact ty_ptrz) (hK _ _ ?_))
    · simp only [Act.put, sTA, sT0, sT1]
      refine sep_any2 1 2 (by kernel_rfl) rfl rfl (fun K hK => sep_step_loadw hs rfl rfl (by rfl) (by repeat (first | exact List.Mem.head _ | apply List.Mem.tail)) (by first | exact ty_rbank | exact ty_ptrz) (hK _ _ ?_)) (fun K hK => sep_step_storew hs rfl rfl (by rfl) (by rfl) (by repeat (first | exact Upd.head | apply Upd.tail)) (by first | exact ty_rbank | exact ty_ptrz) (by first | exact hcn | exact hpv) (fun w1 hs => hK _ _ ?_))
      · simp only [Act.put, sTA, sT0, sT1]
        refine sep_any1 2 (by kernel_rfl) rfl (fun K hK => sep_step_storew hs rfl rfl (by rfl) (by rfl) (by repeat (first | exact Upd.head | apply Upd.tail)) (by first | exact ty_rbank | exact ty_ptrz) (by first | exact hcn | exact hpv) (fun w1 hs => hK _ _ ?_))
        simp only [Act.put, sTA, sT0, sT1]
        refine any_seq 3 (by rfl) (by kernel_rfl) ?_
        simp only [List.drop_succ_cons, List.drop_zero]
        go_wp2_with (refine sep_storew hs rfl rfl (by rfl) (by rfl) (by repeat (first | exact Upd.head | apply Upd.tail)) (by first | exact ty_rbank | exact ty_ptrz) (by first | exact hcn | exact hpv) ?_; clear hs; intro w1 hs)
        exact sep_ret_cct2 hs rfl rfl (by rfl) (by rfl) (v := .int .i64 0) (by rfl) ty_rbank ty_ptrz (by repeat (first | exact List.Mem.head _ | apply List.Mem.tail)) (by repeat (first | exact List.Mem.head _ | apply List.Mem.tail)) ⟨cn, by rw [HPE.out], hs.rdone⟩
      · simp only [Act.put, sTA, sT0, sT1]
        refine sep_any1 1 (by kernel_rfl) rfl (fun K hK => sep_step_loadw hs rfl rfl (by rfl) (by repeat (first | exact List.Mem.head _ | apply List.Mem.tail)) (by first | exact ty_rbank | exact ty_ptrz) (hK _ _ ?_))
        simp only [Act.put, sTA, sT0, sT1]
        refine any_seq 3 (by rfl) (by kernel_rfl) ?_
        simp only [List.drop_succ_cons, List.drop_zero]
        go_wp2_with (refine sep_storew hs rfl rfl (by rfl) (by rfl) (by repeat (first | exact Upd.head | apply Upd.tail)) (by first | exact ty_rbank | exact ty_ptrz) (by first | exact hcn | exact hpv) ?_; clear hs; intro w1 hs)
        exact sep_ret_cct2 hs rfl rfl (by rfl) (by rfl) (v := .int .i64 0) (by rfl) ty_rbank ty_ptrz (by repeat (first | exact List.Mem.head _ | apply List.Mem.tail)) (by repeat (first | exact List.Mem.head _ | apply List.Mem.tail)) ⟨cn, by rw [HPE.out], hs.rdone⟩
    · simp only [Act.put, sTA, sT0, sT1]
      refine sep_any1 0 (by kernel_rfl) rfl (fun K hK => sep_step_loadw hs rfl rfl (by rfl) (by repeat (first | exact List.Mem.head _ | apply List.Mem.tail)) (by first | exact ty_rbank | exact ty_ptrz) (hK _ _ ?_))
      simp only [Act.put, sTA, sT0, sT1]
      refine sep_any1 2 (by kernel_rfl) rfl (fun K hK => sep_step_storew hs rfl rfl (by rfl) (by rfl) (by repeat (first | exact Upd.head | apply Upd.tail)) (by first | exact ty_rbank | exact ty_ptrz) (by first | exact hcn | exact hpv) (fun w1 hs => hK _ _ ?_))
      simp only [Act.put, sTA, sT0, sT1]
      refine any_seq 3 (by rfl) (by kernel_rfl) ?_
      simp only [List.drop_succ_cons, List.drop_zero]
      go_wp2_with (refine sep_storew hs rfl rfl (by rfl) (by rfl) (by repeat (first | exact Upd.head | apply Upd.tail)) (by first | exact ty_rbank | exact ty_ptrz) (by first | exact hcn | exact hpv) ?_; clear hs; intro w1 hs)
      exact sep_ret_cct2 hs rfl rfl (by rfl) (by rfl) (v := .int .i64 0) (by rfl) ty_rbank ty_ptrz (by repeat (first | exact List.Mem.head _ | apply List.Mem.tail)) (by repeat (first | exact List.Mem.head _ | apply List.Mem.tail)) ⟨cn, by rw [HPE.out], hs.rdone⟩
end
end Go.Proofs.YthbldjnpnligpaaDoor

/-
 The document's bank: Put.
-/

namespace Go.Proofs.YthbldjnpnligpaaDoor
set_option linter.unusedSimpArgs false
set_option linter.unusedVariables false
set_option maxRecDepth 100000
open Go.RowKit
section
variable {w w' : World} {G G' : Nat → Prop} {cs cs' : List Value} {S S' : DS} {l l' : List Bool} {t : Nat}
theorem rput_run8 (h : RB w G cs S l t) (hln : S.ws.length ≤ 800000) (a : Option Addr) (c : Nat) (b : List Int) (hB : Bs w a c b) (cp : Int) :
 Calls Tryd.prog 58 #[.agg cs.toArray, .slice a b.length c, .int .i64 cp] w fun e w' => ∃ cs', e = .returned (.tuple #[.agg cs'.toArray, .agg (putK S l t b cp).2.1.vs.toArray, .int .i64 (putK S l t b cp).2.2]) ∧ RBThen G w w' cs' (putK S l t b cp).1.1 (putK S l t b cp).1.2 t := by
 by_cases h0 : S.off = true
 · rw [put_off h0]; exact rpt_no h a c _ cp 8 (.inl ⟨h0, rfl⟩)
 have h0' : S.off = false := by simpa using h0
 by_cases h1 : b.length = 256
 · by_cases h2 : cp < 1
   · rw [put_arg h0' (.inr (.inl h2))]; exact rpt_no h a c _ cp 1 (.inr (.inr (.inl ⟨h0', h1, h2, rfl⟩)))
   · by_cases h3 : 2 < cp
     · rw [put_arg h0' (.inr (.inr h3))]; exact rpt_no h a c _ cp 1 (.inr (.inr (.inr ⟨h0', h1, h2, h3, rfl⟩)))
     · obtain ⟨m, rfl⟩ : ∃ m : Nat, cp = (m : Int) := ⟨cp.toNat, by omega⟩
       have hm : m = 1 ∨ m = 2 := by omega
       rw [h1]
       by_cases h4 : (takeL l (m : Int)).2.2 = 0
       · exact rpt_go h a c m hm hln b hB h1 h0' h4 _ _ _ _ rfl
       · rw [put_full h0' h1 (by omega) h4]; exact rpt_few h a c m hm h0' _ rfl (by simpa using h4)
 · rw [put_arg h0' (.inl h1)]; exact rpt_no h a c _ cp 1 (.inr (.inl ⟨h0', h1, rfl⟩))
end
end Go.Proofs.YthbldjnpnligpaaDoor

/-
 The document's bank: is a copy right?
-/

namespace Go.Proofs.YthbldjnpnligpaaDoor
set_option linter.unusedSimpArgs false
set_option linter.unusedVariables false
set_option maxRecDepth 100000
open Go.RowKit
section
variable {w w' : World} {G G' : Nat → Prop} {cs cs' : List Value} {S S' : DS} {l l' : List Bool} {t : Nat}
set_option maxHeartbeats 4000000 in
theorem rright_zero (cs hs : List Value) (h7 : cs.length = 7) (hl32 : hs.length = 32) (w : World) : Calls Tryd.prog 114 #[.agg cs.toArray, .int .u32 0, .agg hs.toArray] w fun e w' => e = .returned (.tuple #[.slice none 0 0, .bool false]) ∧ Below w.heap.size w w' := by
 go_enter Tryd.func114, Tryd.ntmps114
 go_wp2_with (first
  | ((with_reducible show wpList _ _ _ (Oper.mk _ (Op.box 36 _) _ _ _ _ :: _) _ _); refine wpList_box0 (by rfl) 36 (.tmp 0) (by rfl) cs (by rfl) ?_; intro w1 hK1 hb1 hs1; clear hs1)
  | ((with_reducible show wpList _ _ _ (Oper.mk _ (Op.box 39 _) _ _ _ _ :: _) _ _); refine wpList_box0 (by rfl) 39 (.tmp 2) (by rfl) hs (by rfl) ?_; intro w2 hH2 hb2 hs2; clear hs2))
 go_ret2
 exact ⟨rfl, below_then hb1 hb2⟩
set_option maxHeartbeats 4000000 in
theorem rright_out (h : RB w G cs S l t) (x : Nat) (hx0 : x ≠ 0) (hx : x < 4294967296) (hno : ¬ x < S.laid.length / 256) (hs : List Value) (hl32 : hs.length = 32) : Calls Tryd.prog 114 #[.agg cs.toArray, .int .u32 (x : Int), .agg hs.toArray] w fun e w' => e = .returned (.tuple #[.slice none 0 0, .bool false]) ∧ Below w.heap.size w w' := by
 have hx0' : ¬ ((x : Int) = 0) := by omega
 have hm := h.mlen
 have hsz := h.sz
 obtain ⟨sa, sc, HS0⟩ := h.secs
 obtain ⟨n, hn⟩ : ∃ n, n = S.laid.length / 256 := ⟨_, rfl⟩
 rw [← hn] at HS0 hno hsz
 have HS : Hid (cs[0]? = some (.slice sa n sc)) := HS0
 have hwr : IntKind.u64.wrap (x : Int) = (x : Int) := by rw [IntKind.wrap_u64]; omega
 have hwn : IntKind.u64.wrap (n : Int) = (n : Int) := by rw [IntKind.wrap_u64]; omega
 have hq : n ≤ x := by omega
 have h7 := h.len.1
 clear hn HS0 hsz hm
 go_enter Tryd.func114, Tryd.ntmps114
 go_wp2_with (first
  | ((with_reducible show wpList _ _ _ (Oper.mk _ (Op.box 36 _) _ _ _ _ :: _) _ _); refine wpList_box0 (by rfl) 36 (.tmp 0) (by rfl) cs (by rfl) ?_; intro w1 hK1 hb1 hs1; clear hs1)
  | ((with_reducible show wpList _ _ _ (Oper.mk _ (Op.box 39 _) _ _ _ _ :: _) _ _); refine wpList_box0 (by rfl) 39 (.tmp 2) (by rfl) hs (by rfl) ?_; intro w2 hH2 hb2 hs2; clear hs2
     have hc0 : w2.cell? ⟨w.heap.size, 0, none⟩ = some (.slice sa n sc) := ((hK1.stays hb2).cell 0).trans HS.out))
 go_ret2
 exact ⟨rfl, below_then hb1 hb2⟩
set_option maxHeartbeats 8000000 in
theorem rright_in (h : RB w G cs S l t) (hln : S.ws.length ≤ 900000) (hoff : S.off = false) (x : Nat) (hx0 : x ≠ 0) (hx : x < 4294967296) (hin : x < S.laid.length / 256) (hh : List Int) (hl32 : hh.length = 32) (b : Bool) (hsum : (shaOf (readW S.laid S.ws x) == hh) = b) : Calls Tryd.prog 114 #[.agg cs.toArray, .int .u32 (x : Int), .agg (hh.map (Value.int .u8)).toArray] w fun e w' => ∃ a c, e = .returned (.tuple #[.slice a 256 c, .bool b]) ∧ NewB w.heap.size w' a c (readW S.laid S.ws x) ∧ Below w.heap.size w w' := by
 have hx0' : ¬ ((x : Int) = 0) := by omega
 have hm := h.mlen
 have hsz := h.sz
 obtain ⟨n, hok⟩ := h.ok
 obtain ⟨sa, sc, HS0⟩ := h.secs
 rw [hok.secs] at HS0 hin hsz
 have hrw := readW_ok hok hin
 have HS : Hid (cs[0]? = some (.slice sa n sc)) := HS0
 have hwr : IntKind.u64.wrap (x : Int) = (x : Int) := by rw [IntKind.wrap_u64]; omega
 have hwi : IntKind.i64.wrap (x : Int) = (x : Int) := by rw [IntKind.wrap_i64]; omega
 have hwn : IntKind.u64.wrap (n : Int) = (n : Int) := by rw [IntKind.wrap_u64]; omega
 have hq : ¬ n ≤ x := by omega
 have h7 := h.len.1
 obtain ⟨dc, HDC0, hrf, hd5⟩ := h.disk
 have HDC : Hid (dc = (cs.drop 0).take 5) := HDC0
 have hrd : ∀ u, Below w.heap.size w u → Calls Tryd.prog 153 #[.agg dc.toArray, .int .i64 (x : Int)] u fun e w' => ∃ a c, e = .returned (.tuple #[.slice a 256 c, .int .i64 0]) ∧ NewB u.heap.size w' a c (readW S.laid S.ws x) ∧ Below u.heap.size u w' := fun u hu => by
  have := rread_new (hrf.stays hu) (x : Int) hln
  rw [DS.read_at8 hok hoff hin] at this
  simp only [hrw.1] at this
  exact this
 have heq : ∀ u, (Op.equalIn 10000 39 (.agg ((shaOf (readW S.laid S.ws x)).map (Value.int .u8)).toArray) (.agg (hh.map (Value.int .u8)).toArray)).run Tryd.prog u = .ok (shaOf (readW S.laid S.ws x) == hh) u := fun u => equal_ints Tryd.underlying39 Tryd.underlying5 sizes5 9998 _ _ (shaOf_length _) hl32 u
 rw [hsum] at heq
 have hsm : ∀ u a c, Bs u a c (readW S.laid S.ws x) → Calls Tryd.prog 110 #[.slice a 256 c] u fun e w' => e = .returned (.agg ((shaOf (readW S.laid S.ws x)).map (Value.int .u8)).toArray) ∧ Below u.heap.size u w' := fun u a c hB => by
  have := rsum_run a c _ u hB (by rw [hrw.1]; omega)
  rw [hrw.1] at this
  exact this
 obtain ⟨hs, hhs⟩ : ∃ hs, hs = hh.map (Value.int .u8) := ⟨_, rfl⟩
 obtain ⟨ss, hss⟩ : ∃ ss, ss = (shaOf (readW S.laid S.ws x)).map (Value.int .u8) := ⟨_, rfl⟩
 obtain ⟨R, hR⟩ : ∃ R, R = readW S.laid S.ws x := ⟨_, rfl⟩
 have hhl : hs.length = 32 := by rw [hhs, List.length_map, hl32]
 rw [← hss] at heq hsm
 rw [← hhs] at heq ⊢
 rw [← hR] at hrd hsm hrw ⊢
 clear hhs hss hR hsum hok HDC0 HS0 hrf hm hsz
 go_enter Tryd.func114, Tryd.ntmps114
 go_wp2_with (first
  | ((with_reducible show wpList _ _ _ (Oper.mk _ (Op.box 36 _) _ _ _ _ :: _) _ _); refine wpList_box0 (by rfl) 36 (.tmp 0) (by rfl) cs (by rfl) ?_; intro w1 hK1 hb1 hs1; clear hs1)
  | ((with_reducible show wpList _ _ _ (Oper.mk _ (Op.box 39 _) _ _ _ _ :: _) _ _); refine wpList_box0 (by rfl) 39 (.tmp 2) (by rfl) hs (by rfl) ?_; intro w2 hH2 hb2 hs2; clear hs2
     have hK2 := hK1.stays hb2
     have hb2' := below_then hb1 hb2
     have hc0 : w2.cell? ⟨w.heap.size, 0, none⟩ = some (.slice sa n sc) := (hK2.cell 0).trans HS.out
     have hr2 := hrd w2 hb2')
  | ((with_reducible show wpList _ _ _ (Oper.mk _ (Op.load 30 _) _ _ _ _ :: _) _ _); refine wpList_load_blk (by rfl) (.tmp 23) 30 (by rfl) _ 0 5 (by rfl) agg_rdisk size_rdisk hK2 _ HDC.out hd5 ?_)
  | (go_at_call 153; go_must (refine hr2.mono ?_); rintro e w3 ⟨a3, c3, rfl, hN3, hb3⟩
     have hH3 := hH2.stays hb3))
 have hb3' := below_then hb2' hb3
 have hsum2 : ∀ u, Below w3.heap.size w3 u → Calls Tryd.prog 110 #[.slice a3 256 c3] u fun e w' => e = .returned (.agg ss.toArray) ∧ Below u.heap.size u w' := fun u hu => hsm u a3 c3 (hN3.1.stays hu)
 have hld : ∀ u, Below w3.heap.size w3 u → (Instr.loadAt 39 (.pointer (some ⟨w1.heap.size, 0, none⟩))).run Tryd.prog u = .ok (.agg hs.toArray) u := fun u hu => run_load_blk agg_hsh size_hash (hH3.stays hu) (whole_load hhl) hhl
 have HEQ : Hid (∀ u, (Op.equalIn 10000 39 (.agg ss.toArray) (.agg hs.toArray)).run Tryd.prog u = .ok b u) := heq
 clear hsm hrd hr2 heq
 refine UpT.wp_region_tail 10 (UpT.tell [(5, isV (.agg ss.toArray))]) (fun _ => false) (by kernel_rfl) (by kernel_rfl) (UpT.tell_steady _ (by
  intro p hp
  simp only [List.mem_cons, List.not_mem_nil, or_false] at hp
  rcases hp with rfl <;> first | exact isV_steady _ | exact slB_steady _ _)) ?_
 simp only [List.take_succ_cons, List.take_zero]
 iterate 5 (refine UpT.wpUp_pu ?_; simp only [Act.put, sTA, sT0, sT1])
 refine UpT.wpUp_call _ 110 #[.slice a3 256 c3] (by rfl) (by rfl) (by rfl) (fun wz => by go_simp) (fun wz hp => calls_isV (hsum2 wz hp.1)) ?_
 rintro v ⟨u, _, hf⟩
 obtain rfl := hf.of 5 v _ rfl rfl
 clear hf
 simp only [Act.put, sTA, sT0, sT1]
 refine UpT.wpUp_pure (.agg hs.toArray) (by rfl) (by rfl) (fun wz hp => exec_load (by rfl) (by rfl) (hld wz hp.1)) ?_
 simp only [Act.put, sTA, sT0, sT1]
 have heq := HEQ.out
 iterate 3 (refine UpT.wpUp_pu ?_; simp only [Act.put, sTA, sT0, sT1])
 refine UpT.wpUp_end ?_
 intro w5 hb5 hf
 clear hf
 simp only [List.drop_succ_cons, List.drop_zero]
 go_wp2
 go_ret2
 exact ⟨a3, c3, rfl, ⟨hN3.1.stays hb5, fun x hx => Nat.le_trans hb2'.size (hN3.2 x hx)⟩, below_then hb3' hb5⟩
theorem rright_run (h : RB w G cs S l t) (hln : S.ws.length ≤ 900000) (hoff : S.off = false) (x : Nat) (hx : x < 4294967296) (hh : List Int) (hl32 : hh.length = 32) : Calls Tryd.prog 114 #[.agg cs.toArray, .int .u32 (x : Int), .agg (hh.map (Value.int .u8)).toArray] w fun e w' => ∃ a c n, e = .returned (.tuple #[.slice a n c, .bool (rightL S x hh)]) ∧ (rightL S x hh = true → n = 256 ∧ NewB w.heap.size w' a c (readW S.laid S.ws x)) ∧ Below w.heap.size w w' := by
 by_cases h0 : x = 0
 · subst h0
   refine (rright_zero cs _ h.len.1 (by simpa using hl32) w).mono ?_
   rintro e w' ⟨rfl, hb⟩
   have : rightL S 0 hh = false := by unfold rightL; simp
   rw [this]
   exact ⟨none, 0, 0, rfl, (fun e => nomatch e), hb⟩
 · by_cases h1 : x < S.laid.length / 256
   · refine (rright_in h hln hoff x h0 hx h1 hh hl32 (rightL S x hh) ?_).mono ?_
     · have hb0 : (x == 0) = false := by simpa using h0
       unfold rightL
       rw [hb0, decide_eq_true h1, Bool.eq_iff_iff]
       simp
     · rintro e w' ⟨a, c, rfl, hN, hb⟩
       exact ⟨a, c, 256, rfl, fun _ => ⟨rfl, hN⟩, hb⟩
   · refine (rright_out h x h0 hx h1 _ (by simpa using hl32)).mono ?_
     rintro e w' ⟨rfl, hb⟩
     have : rightL S x hh = false := by unfold rightL; simp [h1]
     rw [this]
     exact ⟨none, 0, 0, rfl, (fun e => nomatch e), hb⟩
end
end Go.Proofs.YthbldjnpnligpaaDoor
