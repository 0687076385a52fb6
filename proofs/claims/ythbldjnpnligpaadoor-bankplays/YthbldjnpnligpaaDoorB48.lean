/-
 What is told, held against itself; the law's numbers.
-/
import Derived.Test.YthbldjnpnligpaaDoorB47
import Derived.Test.YthbldjnpnligpaaDoorB06
import Derived.Deep.CutRange
namespace Go.Proofs.YthbldjnpnligpaaDoor
set_option linter.unusedSimpArgs false
set_option linter.unusedVariables false
set_option maxRecDepth 100000
open Go.RowKit
theorem fields5 {l : List Field} {t1 t2 t3 t4 t5 o1 o2 o3 o4 o5 : Nat} (h : l.map (fun f => (f.name == "_", f.type, f.offset)) = [(false, t1, o1), (false, t2, o2), (false, t3, o3), (false, t4, o4), (false, t5, o5)]) :
 ∃ f1 f2 f3 f4 f5 : Field, l = [f1, f2, f3, f4, f5] ∧ ((f1.name == "_") = false ∧ f1.type = t1 ∧ f1.offset = o1) ∧ ((f2.name == "_") = false ∧ f2.type = t2 ∧ f2.offset = o2) ∧ ((f3.name == "_") = false ∧ f3.type = t3 ∧ f3.offset = o3) ∧ ((f4.name == "_") = false ∧ f4.type = t4 ∧ f4.offset = o4) ∧ ((f5.name == "_") = false ∧ f5.type = t5 ∧ f5.offset = o5) := by
 rcases l with _ | ⟨f1, _ | ⟨f2, _ | ⟨f3, _ | ⟨f4, _ | ⟨f5, _ | ⟨f6, l⟩⟩⟩⟩⟩⟩
 · simp at h
 · simp at h
 · simp at h
 · simp at h
 · simp at h
 · simp only [List.map_cons, List.map_nil, List.cons.injEq, Prod.mk.injEq, and_true] at h
   exact ⟨f1, f2, f3, f4, f5, rfl, h.1, h.2.1, h.2.2.1, h.2.2.2.1, h.2.2.2.2⟩
 · simp at h
theorem bools_same (x y : Bool) (w : World) : (Op.equalIn 9999 46 (.agg (twoB x y).toArray) (.agg (twoB x y).toArray)).run Tryd.prog w = .ok true w := by
 cases x <;> cases y <;> kernel_rfl
theorem told_same {t : Told} (h : t.p.ok) (w : World) : (Op.equalIn 10000 49 (.agg t.vs.toArray) (.agg t.vs.toArray)).run Tryd.prog w = .ok true w := by
 rw [run_equalIn_struct w 9999 _ _ _ (show Tryd.prog.underlying 49 = some (.struct (Tryd.prog.fieldsOf 49)) by kernel_rfl) (by kernel_rfl)]
 obtain ⟨f1, f2, f3, f4, f5, hl, ⟨n1, t1, o1⟩, ⟨n2, t2, o2⟩, ⟨n3, t3, o3⟩, ⟨n4, t4, o4⟩, ⟨n5, t5, o5⟩⟩ := fields5 (show (Tryd.prog.fieldsOf 49).toList.map (fun f => (f.name == "_", f.type, f.offset)) = [(false, 42, 0), (false, 9, 35), (false, 46, 36), (false, 3, 38), (false, 47, 39)] by kernel_rfl)
 rw [hl]
 have g1 : f1.name ≠ "_" := by intro h; simp [h] at n1
 have g2 : f2.name ≠ "_" := by intro h; simp [h] at n2
 have g3 : f3.name ≠ "_" := by intro h; simp [h] at n3
 have g4 : f4.name ≠ "_" := by intro h; simp [h] at n4
 have g5 : f5.name ≠ "_" := by intro h; simp [h] at n5
 have hv := Pt.vs_len h
 have q2 : t.vs[35]? = some (.string (strOfNums t.b)) := by unfold Told.vs; rw [List.getElem?_append_right (by omega), hv]; rfl
 have q3 : twoB t.g0 t.g1 = (t.vs.drop 36).take 2 := by unfold Told.vs; rw [List.drop_append, hv, List.drop_eq_nil_of_le (by omega)]; rfl
 have q4 : t.vs[38]? = some (.int .i64 (t.n : Int)) := by unfold Told.vs; rw [List.getElem?_append_right (by omega), hv]; rfl
 have q5 := Told.at_e h
 have pa1 := part_agg (P := Tryd.prog) (w := w) (off := 0) agg_ptr size_ptr (Told.at_p h)
 have pa2 : (part 9 t.vs.toArray 35).run Tryd.prog w = .ok (.string (strOfNums t.b)) w := by
  simp [part, isAgg, run_underlying (show Tryd.prog.underlying 9 = some .string by kernel_rfl), q2, Sem.run_bind]
 have pa3 := part_agg (P := Tryd.prog) (w := w) (off := 36) agg_bools size_bools q3
 have pa4 := part_one (P := Tryd.prog) (w := w) (K := .i64) (show Tryd.prog.underlying 3 = some (.int .i64) by kernel_rfl) q4
 have pa5 := part_one (P := Tryd.prog) (w := w) (K := .i64) (show Tryd.prog.underlying 47 = some (.int .i64) by kernel_rfl) q5
 have e1 := equal_ptr h h 9996 w
 rw [Pt.same_self] at e1
 have e2 : (Op.equalIn 9999 9 (.string (strOfNums t.b)) (.string (strOfNums t.b))).run Tryd.prog w = .ok true w := by
  rw [run_equalIn_string w 9998 _ _ _ (show Tryd.prog.underlying 9 = some .string by kernel_rfl)]; simp
 have e3 := bools_same t.g0 t.g1 w
 have e4 : (Op.equalIn 9999 3 (.int .i64 (t.n : Int)) (.int .i64 (t.n : Int))).run Tryd.prog w = .ok true w := by
  rw [run_equalIn_int w 9998 _ _ _ _ _ (show Tryd.prog.underlying 3 = some (.int .i64) by kernel_rfl)]; simp
 have e5 : (Op.equalIn 9999 47 (.int .i64 t.e) (.int .i64 t.e)).run Tryd.prog w = .ok true w := by
  rw [run_equalIn_int w 9998 _ _ _ _ _ (show Tryd.prog.underlying 47 = some (.int .i64) by kernel_rfl)]; simp
 simp only [Op.eqFields, g1, g2, g3, g4, g5, t1, t2, t3, t4, t5, o1, o2, o3, o4, o5, ne_eq, not_false_eq_true, if_true, Sem.run_bind, pa1, pa2, pa3, pa4, pa5, e1, e2, e3, e4, e5, Result.andThen_ok, Sem.run_ite, Sem.run_pure, Bool.not_true, Bool.false_eq_true, if_false]
theorem andF31 (n : Int) : bits .and .i64 n 31 = n % 32 := by
 have h15 : (BitVec.ofInt 64 31).toNat = 2 ^ 5 - 1 := by decide
 have key : (BitVec.ofInt 64 n &&& BitVec.ofInt 64 31).toNat = (n % ((2 ^ 64 : Nat) : Int)).toNat % 2 ^ 5 := by
  rw [BitVec.toNat_and, BitVec.toNat_ofInt, h15, Nat.and_two_pow_sub_one_eq_mod]
 show IntKind.i64.wrap ((BitVec.ofInt 64 n &&& BitVec.ofInt 64 31).toNat : Nat) = n % 32
 rw [key, IntKind.wrap_i64]
 omega
theorem rb_tok {w : World} {G : Nat → Prop} {cs : List Value} {S : DS} {l : List Bool} (h : RB w G cs S l 7) (x : ActK) (q : Pt) : (doK S l x q).2.p.ok := by
 unfold doK
 repeat' split
 all_goals first
  | exact rputK_ok h.mlen.2 _ _
  | exact Pt.zero_ok
end Go.Proofs.YthbldjnpnligpaaDoor

/-
 The walk of the law BankPlays.
-/

namespace Go.Proofs.YthbldjnpnligpaaDoor
set_option linter.unusedSimpArgs false
set_option linter.unusedVariables false
set_option maxRecDepth 100000
open Go.RowKit
set_option maxHeartbeats 400000000 in
theorem plays_walk (n0 : Int) (aa : Option Addr) (ac : Nat) (xs : List ActK) (w : World) (hV : Vars w) (hA : ActsK w aa xs) :
 Calls Tryd.prog 3 #[.int .i64 n0, .slice aa xs.length ac] w fun e w' => e = .returned (.bool true) ∧ Below w.heap.size w w' := by
 have hal := fun u (hu : Vars u) => balive_run u hu
 obtain ⟨m0, hm0⟩ : ∃ m : Nat, n0 % 32 = (m : Int) := ⟨(n0 % 32).toNat, by omega⟩
 have hand : bits .and .i64 n0 31 = (m0 : Int) := by rw [andF31, hm0]
 obtain ⟨sz, hsz⟩ : ∃ sz, sz = 16 + m0 := ⟨_, rfl⟩
 have hadd : (16 : Int) + (m0 : Int) = (sz : Int) := by omega
 have hml : m0 < 32 := by omega
 have hN16 : 16 ≤ sz := by omega
 have hN47 : sz ≤ 47 := by omega
 have hfr := bs_fresh sz w (by omega) (by omega)
 have hbo := fun u => both_run sz (by omega) (by omega) u
 obtain ⟨n, hn⟩ : ∃ n, n = xs.length := ⟨_, rfl⟩
 rw [← hn]
 have HN : Hid (n = xs.length) := hn
 have HV : Hid (Vars w) := hV
 have HA : Hid (ActsK w aa xs) := hA
 have HALA : Hid (∀ w : World, (Instr.alloc 45 true (.tuple #[])).run Tryd.prog w = .ok (.pointer (some ⟨w.heap.size, 0, none⟩)) (w.alloc (.cells zeroActK.toArray 45))) := alloc_actK
 have HALT : Hid (∀ w : World, (Instr.alloc 49 true (.tuple #[])).run Tryd.prog w = .ok (.pointer (some ⟨w.heap.size, 0, none⟩)) (w.alloc (.cells Told.zero.vs.toArray 49))) := alloc_told
 have HALP : Hid (∀ w : World, (Instr.alloc 42 true (.tuple #[])).run Tryd.prog w = .ok (.pointer (some ⟨w.heap.size, 0, none⟩)) (w.alloc (.cells Pt.zero.vs.toArray 42))) := alloc_ptr0
 have hzal : zeroActK.length = 40 := zeroActK_len
 have hztl : Told.zero.vs.length = 40 := Told.vs_len Pt.zero_ok
 have hzpl : Pt.zero.vs.length = 35 := Pt.vs_len Pt.zero_ok
 obtain ⟨za, hza⟩ : ∃ za, za = zeroActK := ⟨_, rfl⟩
 obtain ⟨zt, hzt⟩ : ∃ zt, zt = Told.zero.vs := ⟨_, rfl⟩
 obtain ⟨zp, hzp⟩ : ∃ zp, zp = Pt.zero.vs := ⟨_, rfl⟩
 rw [← hza] at HALA hzal
 rw [← hzt] at HALT hztl
 rw [← hzp] at HALP hzpl
 have HALB : ∃ zs : List Value, zs.length = 7 ∧ ∀ w : World, (Instr.alloc 36 true (.tuple #[])).run Tryd.prog w = .ok (.pointer (some ⟨w.heap.size, 0, none⟩)) (w.alloc (.cells zs.toArray 36)) := ⟨_, rfl, alloc_rbank⟩
 obtain ⟨zs, hzs, HALB⟩ := HALB
 have HALB : Hid (∀ w : World, (Instr.alloc 36 true (.tuple #[])).run Tryd.prog w = .ok (.pointer (some ⟨w.heap.size, 0, none⟩)) (w.alloc (.cells zs.toArray 36))) := HALB
 clear hn hza hzt hzp hV hA hm0 hsz
 go_enter Tryd.func3, Tryd.ntmps3
 go_wp2_with (first
 | (go_at_call 10; go_must (refine hfr.mono ?_); rintro e w1 ⟨k, p, g, rfl, hK1⟩)
 | (go_at_call 11; go_must (refine (hbo w1).mono ?_); rintro e w2 ⟨cs0, rfl, hR2, hb2⟩
    have hq := QS.start (gm := 0) (b := 0) (c := 0) (n := 0) (rest := []) (w3 := w2) hK1 hR2 hb2
    have hc7 := hR2.len
    have hbel := hq.bel
    clear hR2 hK1 hb2
    dsimp only []
    apply_assumption
    refine wpList_alloc0 (by rfl) 36 (by rfl) (some 8) (by rfl) _ HALB.out ?_; intro w3 hM hbw3 hsw3
    have HGM : Hid (w.heap.size ≤ w2.heap.size) := hbel.size
    replace hq := hq.new (N' := (fun j => j = w2.heap.size)) hbw3 (fun j hj => .inr (by rw [hj]; exact ⟨Nat.le_refl _, hM.lt⟩))
    replace hbel := below_then hbel hbw3
    clear hsw3 hbw3
    refine wpList_store_blk (by rfl) (.tmp 8) (.tmp 27) 36 (by rfl) _ 0 7 (by rfl) cs0 (by rfl) size_rbank hM hc7.1 (by omega) hc7.2 _ (whole_store hzs) ?_; intro w4 hNw4 huw4 hsw4
    clear hsw4
    replace hM := hNw4
    clear hNw4
    replace hq := hq.set huw4 (by simp)
    replace hbel := hbel.trans (huw4.below HGM.out hbel.size)
    clear huw4)
 | ((with_reducible show wpList _ _ _ (Oper.mk _ (Op.buildSlice 38 0 _) _ _ _ _ :: _) _ _); refine wpList_nop (by rfl) (by rfl) (some 28) (by rfl) ?_; intro w9 b9 hb9e hP9 hb9
    replace hq := hq.empty hb9 hb9e hP9
    replace hM := hM.stays hb9
    clear hP9 hb9 hbel))
 obtain ⟨v0, hv0⟩ : ∃ v0, v0 = Value.slice (some ⟨b9, 0, none⟩) 0 0 := ⟨_, rfl⟩
 rw [← hv0] at hq ⊢
 have HS0 : Hid ((DS.new sz).ws.length ≤ 8 * 0 ∧ ([] : List Pt).length ≤ 0) := by show _ ∧ _; exact ⟨by simp [DS.new], by simp⟩
 obtain ⟨S0, hS0⟩ : ∃ S0, S0 = DS.new sz := ⟨_, rfl⟩
 obtain ⟨l0, hl0⟩ : ∃ l0, l0 = lab sz 4 := ⟨_, rfl⟩
 rw [← hS0] at hq HS0
 rw [← hl0] at hq
 clear hS0 hl0 hv0 hb9e hfr hbo hc7 hml hN16 hN47 hadd hand
 go_loopw [9, 10] (fun v x wr => ∃ (i : Nat) (S : DS) (l : List Bool) (ps : List Pt) (cs : List Value), x = .int .i64 i ∧ i ≤ 30 ∧ i ≤ n ∧ QS w wr (fun j => j = w2.heap.size) v ps k p g S l cs S l ∧ Blk 36 wr w2.heap.size cs ∧ Hid (S.ws.length ≤ 8 * i ∧ ps.length ≤ i)) (fun _ x _ => 40 - (intOf x).toNat)
 case atStart => exact ⟨0, S0, l0, [], cs0, rfl, by omega, by omega, hq, hM, HS0⟩
 case round =>
  clear hq hM HS0 S0 l0
  rename_i wr hrel
  obtain ⟨i, S, l, ps, cs, rfl, hi30, hin, hq, hM, HS⟩ := hrel
  have hbel := hq.bel
  obtain ⟨Mq, hbs⟩ := hq.bs
  have HVr : Hid (Vars wr) := hbs.vars HV.out
  clear hbs Mq
  by_cases hlt : i < n ∧ i < 30
  · obtain ⟨hlt, hlt3⟩ := hlt
    have hq1 : decide ((i : Int) < (n : Int)) = true := by simp; omega
    have hq2 : decide ((i : Int) < 30) = true := by simp; omega
    have hxok : ActKOk w (xs.getD i default) := HA.out.ok _ (by have h := HN.out; rw [List.getD_eq_getElem?_getD, List.getElem?_eq_getElem (by omega)]; exact List.getElem_mem _)
    obtain ⟨b, off, haa, hcA, hjunk⟩ := (HA.out.stays hbel).at (i := i) (by rw [← HN.out]; exact hlt)
    clear hjunk
    subst haa
    obtain ⟨X, hX⟩ : ∃ X, X = xs.getD i default := ⟨_, rfl⟩
    rw [← hX] at hcA hxok
    have HXO : Hid (ActKOk w X) := hxok
    have hcs := ActK.cells_at hxok.p
    have hal40 : X.cells.length = 40 := ActK.cells_len hxok.p
    have halo := ActK.cells_one X
    have hxp : X.p.vs = (X.cells.drop 4).take 35 := ActK.cells_ptr hxok.p
    obtain ⟨av, hav⟩ : ∃ av, av = X.cells := ⟨_, rfl⟩
    have HAV : Hid (av = X.cells) := hav
    rw [← hav] at hcA hcs hal40 halo hxp
    obtain ⟨nb, hnb⟩ : ∃ nb, nb = X.bs.length := ⟨_, rfl⟩
    obtain ⟨kd, hkd⟩ : ∃ kd, kd = X.kind := ⟨_, rfl⟩
    obtain ⟨wh, hwh⟩ : ∃ wh, wh = X.which := ⟨_, rfl⟩
    rw [← hnb, ← hkd, ← hwh] at hcs
    have HC : Hid (av[0]? = some (.int .i64 kd) ∧ av[1]? = some (.int .i64 X.copies) ∧ av[2]? = some (.int .i64 wh) ∧ av[3]? = some (.int .i64 X.at') ∧ av[39]? = some (.slice X.ba nb X.bc)) := hcs
    have hxvl : X.p.vs.length = 35 := Pt.vs_len hxok.p
    have hxvo : ∀ v ∈ X.p.vs, v.oneCell' = true := Pt.vs_one _
    obtain ⟨xv, hxv⟩ : ∃ xv, xv = X.p.vs := ⟨_, rfl⟩
    have HXV : Hid (xv = X.p.vs) := hxv
    rw [← hxv] at hxp hxvl hxvo
    have HXP : Hid (xv = (av.drop 4).take 35) := hxp
    have hixA : ∀ u, (Instr.indexAt 22 (.slice (some ⟨b, off, none⟩) n ac) (.int .i64 (i : Int))).run Tryd.prog u = .ok (.pointer (some ⟨b, off + i * 40, none⟩)) u := fun u => index_slK Tryd.underlying22 (by kernel_rfl) hlt u
    obtain ⟨pa, pc, rfl⟩ := hq.pl.form
    obtain ⟨L, hLe⟩ : ∃ L, L = ps.length := ⟨_, rfl⟩
    have HL : Hid (L = ps.length) := hLe
    rw [← hLe] at hq ⊢
    have HSL : Hid (S.ws.length ≤ 700000) := by show _ ≤ _; have := HS.out; omega
    have HNB : Hid (nb = X.bs.length) := hnb
    obtain ⟨H0, hrb0⟩ := hq.rb
    have h7 := hrb0.len
    clear hX hcs hxp hav hkd hwh hxv hLe hxok hnb hrb0
    by_cases hbig : 300 < nb
    · have hx300 : decide ((300 : Int) < (nb : Int)) = true := by simp; omega
      go_wp2_with (first
       | ((with_reducible show wpList _ _ _ (Oper.mk _ (Op.load 45 (.tmp 41)) _ _ _ _ :: _) _ _); refine wpList_load_cells (by rfl) (.tmp 41) 45 (by rfl) b (off + i * 40) 40 (by rfl) agg_actK size_actK av hcA hal40 ?_)
       | ((with_reducible show wpList _ _ _ (Oper.mk (some 11) (Op.alloc 45) _ _ _ _ :: _) _ _); refine wpList_alloc0 (by rfl) 45 (by rfl) (some 11) (by rfl) _ HALA.out ?_; intro w21 hA hbw21 hsw21
          have HLA : Hid (w2.heap.size < wr.heap.size) := hM.lt
          have HGA : Hid (w.heap.size ≤ wr.heap.size) := hbel.size
          replace hM := hM.stays hbw21
          replace hq := hq.new (N' := (fun j => j = w2.heap.size ∨ j = wr.heap.size)) hbw21 (fun j hj => by rcases hj with rfl | rfl <;> first | exact .inl (by simp) | exact .inr ⟨Nat.le_refl _, hA.lt⟩)
          replace hbel := below_then hbel hbw21
          clear hsw21 hbw21)
       | ((with_reducible show wpList _ _ _ (Oper.mk _ (Op.store 45 (.tmp 11) _) _ _ _ _ :: _) _ _); refine wpList_store_blk (by rfl) (.tmp 11) (.tmp 42) 45 (by rfl) _ 0 40 (by rfl) av (by rfl) size_actK hA hal40 (by omega) halo _ (whole_store hzal) ?_; intro w22 hNw22 huw22 hsw22
          clear hsw22
          replace hA := hNw22
          clear hNw22
          replace hM := hM.but huw22 (Nat.ne_of_lt HLA.out)
          replace hq := hq.set huw22 (by simp)
          replace hbel := hbel.trans (huw22.below HGA.out hbel.size)
          replace hc39 : w22.cell? ⟨wr.heap.size, 39, none⟩ = some (.slice X.ba nb X.bc) := (hA.cell 39).trans HC.out.2.2.2.2
          clear huw22))
      go_roundw
      case rel => exact ⟨i + 1, S, l, ps, cs, by go_num, by omega, by omega, hq.less (fun j hj => .inl hj), hM, (by show _ ∧ _; have := HS.out; omega)⟩
      case measure => simp [intOf]; omega
    · have hx300 : decide ((300 : Int) < (nb : Int)) = false := by simp; omega
      have HXL : Hid (X.bs.length ≤ 300) := by show _ ≤ _; rw [← HNB.out]; omega
      go_upto_region 13 with (first
       | ((with_reducible show wpList _ _ _ (Oper.mk _ (Op.load 45 (.tmp 41)) _ _ _ _ :: _) _ _); refine wpList_load_cells (by rfl) (.tmp 41) 45 (by rfl) b (off + i * 40) 40 (by rfl) agg_actK size_actK av hcA hal40 ?_)
       | ((with_reducible show wpList _ _ _ (Oper.mk (some 11) (Op.alloc 45) _ _ _ _ :: _) _ _); refine wpList_alloc0 (by rfl) 45 (by rfl) (some 11) (by rfl) _ HALA.out ?_; intro w21 hA hbw21 hsw21
          have HLA : Hid (w2.heap.size < wr.heap.size) := hM.lt
          have HGA : Hid (w.heap.size ≤ wr.heap.size) := hbel.size
          replace hM := hM.stays hbw21
          replace hq := hq.new (N' := (fun j => j = w2.heap.size ∨ j = wr.heap.size)) hbw21 (fun j hj => by rcases hj with rfl | rfl <;> first | exact .inl (by simp) | exact .inr ⟨Nat.le_refl _, hA.lt⟩)
          replace hbel := below_then hbel hbw21
          clear hsw21 hbw21)
       | ((with_reducible show wpList _ _ _ (Oper.mk _ (Op.store 45 (.tmp 11) _) _ _ _ _ :: _) _ _); refine wpList_store_blk (by rfl) (.tmp 11) (.tmp 42) 45 (by rfl) _ 0 40 (by rfl) av (by rfl) size_actK hA hal40 (by omega) halo _ (whole_store hzal) ?_; intro w22 hNw22 huw22 hsw22
          clear hsw22
          replace hA := hNw22
          clear hNw22
          replace hM := hM.but huw22 (Nat.ne_of_lt HLA.out)
          replace hq := hq.set huw22 (by simp)
          replace hbel := hbel.trans (huw22.below HGA.out hbel.size)
          replace hc39 : w22.cell? ⟨wr.heap.size, 39, none⟩ = some (.slice X.ba nb X.bc) := (hA.cell 39).trans HC.out.2.2.2.2
          clear huw22)
       | ((with_reducible show wpList _ _ _ (Oper.mk _ (Op.load 42 (.tmp 47)) _ _ _ _ :: _) _ _); refine wpList_load_blk (by rfl) (.tmp 47) 42 (by rfl) _ 4 35 (by rfl) agg_ptr size_ptr hA _ HXP.out hxvl ?_)
       | ((with_reducible show wpList _ _ _ (Oper.mk (some 12) (Op.alloc 42) _ _ _ _ :: _) _ _); refine wpList_alloc0 (by rfl) 42 (by rfl) (some 12) (by rfl) _ HALP.out ?_; intro w23 hP hbw23 hsw23
          have HLP : Hid (w2.heap.size < w22.heap.size ∧ wr.heap.size < w22.heap.size) := ⟨hM.lt, hA.lt⟩
          have HGP : Hid (w.heap.size ≤ w22.heap.size) := hbel.size
          replace hM := hM.stays hbw23
          replace hA := hA.stays hbw23
          replace hq := hq.new (N' := (fun j => j = w2.heap.size ∨ j = wr.heap.size ∨ j = w22.heap.size)) hbw23 (fun j hj => by rcases hj with rfl | rfl | rfl <;> first | exact .inl (by simp) | exact .inr ⟨Nat.le_refl _, hP.lt⟩)
          replace hbel := below_then hbel hbw23
          clear hsw23 hbw23)
       | ((with_reducible show wpList _ _ _ (Oper.mk _ (Op.store 42 (.tmp 12) _) _ _ _ _ :: _) _ _); refine wpList_store_blk (by rfl) (.tmp 12) (.tmp 48) 42 (by rfl) _ 0 35 (by rfl) xv (by rfl) size_ptr hP hxvl (by omega) hxvo _ (whole_store hzpl) ?_; intro w24 hNw24 huw24 hsw24
          clear hsw24
          replace hP := hNw24
          clear hNw24
          replace hM := hM.but huw24 (Nat.ne_of_lt HLP.out.1)
          replace hA := hA.but huw24 (Nat.ne_of_lt HLP.out.2)
          replace hq := hq.set huw24 (by simp)
          replace hbel := hbel.trans (huw24.below HGP.out hbel.size)
          replace hc2 : w24.cell? ⟨wr.heap.size, 2, none⟩ = some (.int .i64 wh) := (hA.cell 2).trans HC.out.2.2.1
          clear huw24))
      simp only [Act.put, sTA, sT0, sT1]
      obtain ⟨ib, hib⟩ : ∃ ib : Bool, ib = decide (0 ≤ wh ∧ wh < (L : Int)) := ⟨_, rfl⟩
      have HIB : Hid (ib = decide (0 ≤ wh ∧ wh < (L : Int))) := hib
      clear hib
      go_cut [58] from 29 to 127 (fun c wx => c = .bool ib ∧ wx = w24)
      case first =>
       by_cases h0 : 0 ≤ wh
       · have hw1 : decide ((0 : Int) ≤ wh) = true := by simp; omega
         by_cases h1 : wh < (L : Int)
         · have hw2 : decide (wh < (L : Int)) = true := by simp; omega
           have HE : Hid (ib = true) := by show _ = _; rw [HIB.out]; exact decide_eq_true ⟨h0, h1⟩
           go_wp2
           go_meet
           case rel => exact ⟨by rw [HE.out], rfl⟩
         · have hw2 : decide (wh < (L : Int)) = false := by simp; omega
           have HE : Hid (ib = false) := by show _ = _; rw [HIB.out]; exact decide_eq_false (fun h => h1 h.2)
           go_wp2
           go_meet
           case rel => exact ⟨by rw [HE.out], rfl⟩
       · have hw1 : decide ((0 : Int) ≤ wh) = false := by simp; omega
         have HE : Hid (ib = false) := by show _ = _; rw [HIB.out]; exact decide_eq_false (fun h => h0 h.1)
         go_wp2
         go_meet
         case rel => exact ⟨by rw [HE.out], rfl⟩
      case rest =>
       obtain ⟨rfl, hwc⟩ := hcut
       subst hwc
       go_upto_if 58 with fail
       go_cut [] from 29 to 127 (fun wx => ∃ (Q : Pt) (qv : List Value), Q.ok ∧ Hid (qv = Q.vs) ∧ Blk 42 wx w22.heap.size qv ∧ Blk 45 wx wr.heap.size av ∧ Blk 36 wx w2.heap.size cs ∧ QS w wx (fun j => j = w2.heap.size ∨ j = wr.heap.size ∨ j = w22.heap.size) (.slice pa L pc) ps k p g S l cs S l)
       case first =>
        cases ib
        · go_wp2
          go_meet
          case rel => exact ⟨X.p, xv, HXO.out.p, HXV.out, hP, hA, hM, hq⟩
        · have hin := of_decide_eq_true HIB.out.symm
          obtain ⟨hin1, hin2⟩ := hin
          obtain ⟨m, hm⟩ : ∃ m : Nat, wh = (m : Int) := ⟨wh.toNat, by omega⟩
          subst hm
          have hmL : m < L := by omega
          have hw1 : decide ((0 : Int) ≤ (m : Int)) = true := by simp
          have hw2 : decide ((m : Int) < (L : Int)) = true := by simp; omega
          obtain ⟨bp, cp', hvp, hj1, hj2, hqok⟩ := hq.pl.at (i := m) (by rw [← HL.out]; exact hmL)
          clear hj1 hj2
          have hpa : pa = some ⟨bp, 0, none⟩ := by simp only [Value.slice.injEq] at hvp; exact hvp.1
          subst hpa
          clear hvp
          have hixP : ∀ u : World, (Instr.indexAt 38 (.slice (some ⟨bp, 0, none⟩) L pc) (.int .i64 (m : Int))).run Tryd.prog u = .ok (.pointer (some ⟨bp, m * 35, none⟩)) u := fun u => index_ptrs bp L pc m hmL u
          obtain ⟨Q, hQe'⟩ : ∃ Q, Q = ps.getD m default := ⟨_, rfl⟩
          have HQE : Hid (ps.getD m default = Q) := hQe'.symm
          rw [← hQe'] at hqok
          clear hQe'
          have HQOK : Hid Q.ok := hqok
          have hqvl : Q.vs.length = 35 := Pt.vs_len hqok
          have hqvo : ∀ v ∈ Q.vs, v.oneCell' = true := Pt.vs_one _
          obtain ⟨qv, hqv⟩ : ∃ qv, qv = Q.vs := ⟨_, rfl⟩
          have HQV : Hid (qv = Q.vs) := hqv
          rw [← hqv] at hqvl hqvo
          have hcP := hq.pl.cells (i := m) (by rw [← HL.out]; exact hmL)
          rw [HQE.out, ← HQV.out] at hcP
          clear hqv hqok
          go_wp2_with (first
          | ((with_reducible show wpList _ _ _ (Oper.mk _ (Op.load 42 (.tmp 62)) _ _ _ _ :: _) _ _); refine wpList_load_cells (by rfl) (.tmp 62) 42 (by rfl) bp (m * 35) 35 (by rfl) agg_ptr size_ptr qv hcP hqvl ?_)
          | ((with_reducible show wpList _ _ _ (Oper.mk _ (Op.store 42 (.tmp 12) _) _ _ _ _ :: _) _ _); refine wpList_store_blk (by rfl) (.tmp 12) (.tmp 63) 42 (by rfl) _ 0 35 (by rfl) qv (by rfl) size_ptr hP hqvl (by omega) hqvo _ (whole_store hxvl) ?_; intro w25 hNw25 huw25 hsw25
             clear hsw25
             replace hP := hNw25
             clear hNw25
             replace hM := hM.but huw25 (Nat.ne_of_lt HLP.out.1)
             replace hA := hA.but huw25 (Nat.ne_of_lt HLP.out.2)
             replace hq := hq.set huw25 (by simp)
             replace hbel := hbel.trans (huw25.below HGP.out hbel.size)
             clear huw25
             clear hcP))
          go_meet
          case rel => exact ⟨Q, qv, HQOK.out, HQV.out, hP, hA, hM, hq⟩
       case rest =>
        clear hA hP hM hq hbel
        obtain ⟨Q, qv, hqok, hqv', hP, hA, hM, hq⟩ := hcut
        have hqv := hqv'.out
        have hbel := hq.bel
        have HQV : Hid (qv = Q.vs) := hqv
        have hqvl : qv.length = 35 := by rw [hqv]; exact Pt.vs_len hqok
        have hqvo : ∀ v ∈ qv, v.oneCell' = true := by rw [hqv]; exact Pt.vs_one _
        have HQOK : Hid Q.ok := hqok
        obtain ⟨H1, hrb1⟩ := hq.rb
        have htok := rb_tok hrb1 X Q
        clear hrb1
        have hdl := doK_len S l X Q
        obtain ⟨D, hD⟩ : ∃ D, D = doK S l X Q := ⟨_, rfl⟩
        have HD : Hid (D = doK S l X Q) := hD
        rw [← hD] at htok hdl
        have HTOK : Hid D.2.p.ok := htok
        have HDL : Hid (D.1.1.ws.length ≤ S.ws.length + 8) := hdl
        obtain ⟨tv, htv⟩ : ∃ tv, tv = D.2.vs := ⟨_, rfl⟩
        have HTV : Hid (tv = D.2.vs) := htv
        have htvl : tv.length = 40 := by rw [htv]; exact Told.vs_len htok
        have htvo : ∀ v ∈ tv, v.oneCell' = true := by rw [htv]; exact Told.vs_one _
        obtain ⟨ev, hev⟩ : ∃ ev, ev = D.2.e := ⟨_, rfl⟩
        have HTE : Hid (tv[39]? = some (.int .i64 ev)) := by rw [htv, hev]; exact Told.at_e htok
        obtain ⟨tpv, htpv⟩ : ∃ tpv, tpv = D.2.p.vs := ⟨_, rfl⟩
        have HTPV : Hid (tpv = D.2.p.vs) := htpv
        have HTP : Hid (tpv = (tv.drop 0).take 35) := by rw [htpv, htv]; exact Told.at_p htok
        have htpl : tpv.length = 35 := by rw [htpv]; exact Pt.vs_len htok
        have HONE : Hid (∀ w : World, (Instr.buildSlice 38 1 [(0, Value.agg tpv.toArray)].toArray).run Tryd.prog w = .ok (.slice (some ⟨w.heap.size, 0, none⟩) 1 1) (w.alloc (.cells tpv.toArray 42))) := by rw [htpv]; exact run_onep D.2.p htok
        have HTSAME : Hid (∀ u, (Op.equalIn 10000 49 (.agg tv.toArray) (.agg tv.toArray)).run Tryd.prog u = .ok true u) := by
            show ∀ u, _
            intro u
            rw [htv]
            exact told_same htok u
        clear hqok hD htok hdl htv hev htpv hqv
        have hdo := qs_do hq HV.out HSL.out X HXO.out HXL.out Q HQOK.out
        rw [← HD.out, ← HAV.out, ← HQV.out, ← HTV.out] at hdo
        go_wp2_with (first
            | ((with_reducible show wpList _ _ _ (Oper.mk _ (Op.load 45 (.tmp 11)) _ _ _ _ :: _) _ _); refine wpList_load_blk (by rfl) (.tmp 11) 45 (by rfl) _ 0 40 (by rfl) agg_actK size_actK hA _ (whole_load hal40) hal40 ?_)
            | ((with_reducible show wpList _ _ _ (Oper.mk _ (Op.load 42 (.tmp 12)) _ _ _ _ :: _) _ _); refine wpList_load_blk (by rfl) (.tmp 12) 42 (by rfl) _ 0 35 (by rfl) agg_ptr size_ptr hP _ (whole_load hqvl) hqvl ?_)
            | (go_at_call 12; go_must (refine hdo.mono ?_); rintro e w26 ⟨rfl, hq2, hy⟩
               replace hq := hq2
               replace hM := hy.blk hM (by simp)
               replace hA := hy.blk hA (by simp)
               replace hP := hy.blk hP (by simp)
               clear hq2 hy hdo
               replace hbel := hq.bel
               dsimp only []
               apply_assumption
               refine wpList_alloc0 (by rfl) 49 (by rfl) (some 13) (by rfl) _ HALT.out ?_; intro w27 hX hbw27 hsw27
               have HLX : Hid (w2.heap.size < w26.heap.size ∧ wr.heap.size < w26.heap.size ∧ w22.heap.size < w26.heap.size) := ⟨hM.lt, hA.lt, hP.lt⟩
               have HGX : Hid (w.heap.size ≤ w26.heap.size) := hbel.size
               replace hM := hM.stays hbw27
               replace hA := hA.stays hbw27
               replace hP := hP.stays hbw27
               replace hq := hq.new (N' := (fun j => j = w2.heap.size ∨ j = wr.heap.size ∨ j = w22.heap.size ∨ j = w26.heap.size)) hbw27 (fun j hj => by rcases hj with rfl | rfl | rfl | rfl <;> first | exact .inl (by simp) | exact .inr ⟨Nat.le_refl _, hX.lt⟩)
               replace hbel := below_then hbel hbw27
               clear hsw27 hbw27
               refine wpList_store_blk (by rfl) (.tmp 13) (.tmp 68) 49 (by rfl) _ 0 40 (by rfl) tv (by rfl) size_told hX htvl (by omega) htvo _ (whole_store hztl) ?_; intro w28 hNw28 huw28 hsw28
               clear hsw28
               replace hX := hNw28
               clear hNw28
               replace hM := hM.but huw28 (Nat.ne_of_lt HLX.out.1)
               replace hA := hA.but huw28 (Nat.ne_of_lt HLX.out.2.1)
               replace hP := hP.but huw28 (Nat.ne_of_lt HLX.out.2.2)
               replace hq := hq.set huw28 (by simp)
               replace hbel := hbel.trans (huw28.below HGX.out hbel.size)
               clear huw28
               have hmo := qs_model hq HSL.out X HXO.out HXL.out Q HQOK.out
               rw [← HD.out, ← HAV.out, ← HQV.out, ← HTV.out] at hmo)
            | ((with_reducible show wpList _ _ _ (Oper.mk _ (Op.load 36 (.tmp 8)) _ _ _ _ :: _) _ _); refine wpList_load_blk (by rfl) (.tmp 8) 36 (by rfl) _ 0 7 (by rfl) agg_rbank size_rbank hM _ (whole_load h7.1) h7.1 ?_)
            | (go_at_call 13; go_must (refine hmo.mono ?_); rintro e w29 ⟨ds, rfl, hds, hbm, hq2⟩
               replace hM := hM.stays hbm
               replace hA := hA.stays hbm
               replace hP := hP.stays hbm
               replace hX := hX.stays hbm
               replace hbel := below_then hbel hbm
               replace hq := hq2
               clear hq2 hmo hbm)
            | ((with_reducible show wpList _ _ _ (Oper.mk (some 14) (Op.alloc 36) _ _ _ _ :: _) _ _); refine wpList_alloc0 (by rfl) 36 (by rfl) (some 14) (by rfl) _ HALB.out ?_; intro w30 hZ hbw30 hsw30
               have HLZ : Hid (w2.heap.size < w29.heap.size ∧ wr.heap.size < w29.heap.size ∧ w22.heap.size < w29.heap.size ∧ w26.heap.size < w29.heap.size) := ⟨hM.lt, hA.lt, hP.lt, hX.lt⟩
               have HGZ : Hid (w.heap.size ≤ w29.heap.size) := hbel.size
               replace hM := hM.stays hbw30
               replace hA := hA.stays hbw30
               replace hP := hP.stays hbw30
               replace hX := hX.stays hbw30
               replace hq := hq.new (N' := (fun j => j = w2.heap.size ∨ j = wr.heap.size ∨ j = w22.heap.size ∨ j = w26.heap.size ∨ j = w29.heap.size)) hbw30 (fun j hj => by rcases hj with rfl | rfl | rfl | rfl | rfl <;> first | exact .inl (by simp) | exact .inr ⟨Nat.le_refl _, hZ.lt⟩)
               replace hbel := below_then hbel hbw30
               clear hsw30 hbw30)
            | ((with_reducible show wpList _ _ _ (Oper.mk (some 15) (Op.alloc 49) _ _ _ _ :: _) _ _); refine wpList_alloc0 (by rfl) 49 (by rfl) (some 15) (by rfl) _ HALT.out ?_; intro w31 hY hbw31 hsw31
               have HLY : Hid (w2.heap.size < w30.heap.size ∧ wr.heap.size < w30.heap.size ∧ w22.heap.size < w30.heap.size ∧ w26.heap.size < w30.heap.size ∧ w29.heap.size < w30.heap.size) := ⟨hM.lt, hA.lt, hP.lt, hX.lt, hZ.lt⟩
               have HGY : Hid (w.heap.size ≤ w30.heap.size) := hbel.size
               replace hM := hM.stays hbw31
               replace hA := hA.stays hbw31
               replace hP := hP.stays hbw31
               replace hX := hX.stays hbw31
               replace hZ := hZ.stays hbw31
               replace hq := hq.new (N' := (fun j => j = w2.heap.size ∨ j = wr.heap.size ∨ j = w22.heap.size ∨ j = w26.heap.size ∨ j = w29.heap.size ∨ j = w30.heap.size)) hbw31 (fun j hj => by rcases hj with rfl | rfl | rfl | rfl | rfl | rfl <;> first | exact .inl (by simp) | exact .inr ⟨Nat.le_refl _, hY.lt⟩)
               replace hbel := below_then hbel hbw31
               clear hsw31 hbw31)
            | ((with_reducible show wpList _ _ _ (Oper.mk _ (Op.store 36 (.tmp 14) _) _ _ _ _ :: _) _ _); refine wpList_store_blk (by rfl) (.tmp 14) (.tmp 74) 36 (by rfl) _ 0 7 (by rfl) ds (by rfl) size_rbank hZ hds.1 (by omega) hds.2 _ (whole_store hzs) ?_; intro w32 hNw32 huw32 hsw32
               clear hsw32
               replace hZ := hNw32
               clear hNw32
               replace hM := hM.but huw32 (Nat.ne_of_lt HLZ.out.1)
               replace hA := hA.but huw32 (Nat.ne_of_lt HLZ.out.2.1)
               replace hP := hP.but huw32 (Nat.ne_of_lt HLZ.out.2.2.1)
               replace hX := hX.but huw32 (Nat.ne_of_lt HLZ.out.2.2.2)
               replace hY := hY.but huw32 (Nat.ne_of_gt HLY.out.2.2.2.2)
               replace hq := hq.set huw32 (by simp)
               replace hbel := hbel.trans (huw32.below HGZ.out hbel.size)
               clear huw32)
            | ((with_reducible show wpList _ _ _ (Oper.mk _ (Op.store 49 (.tmp 15) _) _ _ _ _ :: _) _ _); refine wpList_store_blk (by rfl) (.tmp 15) (.tmp 75) 49 (by rfl) _ 0 40 (by rfl) tv (by rfl) size_told hY htvl (by omega) htvo _ (whole_store hztl) ?_; intro w33 hNw33 huw33 hsw33
               clear hsw33
               replace hY := hNw33
               clear hNw33
               replace hM := hM.but huw33 (Nat.ne_of_lt HLY.out.1)
               replace hA := hA.but huw33 (Nat.ne_of_lt HLY.out.2.1)
               replace hP := hP.but huw33 (Nat.ne_of_lt HLY.out.2.2.1)
               replace hX := hX.but huw33 (Nat.ne_of_lt HLY.out.2.2.2.1)
               replace hZ := hZ.but huw33 (Nat.ne_of_lt HLY.out.2.2.2.2)
               replace hq := hq.set huw33 (by simp)
               replace hbel := hbel.trans (huw33.below HGY.out hbel.size)
               clear huw33)
            | ((with_reducible show wpList _ _ _ (Oper.mk _ (Op.load 36 (.tmp 14)) _ _ _ _ :: _) _ _); refine wpList_load_blk (by rfl) (.tmp 14) 36 (by rfl) _ 0 7 (by rfl) agg_rbank size_rbank hZ _ (whole_load hds.1) hds.1 ?_)
            | ((with_reducible show wpList _ _ _ (Oper.mk _ (Op.store 36 (.tmp 8) _) _ _ _ _ :: _) _ _); refine wpList_store_blk (by rfl) (.tmp 8) (.tmp 76) 36 (by rfl) _ 0 7 (by rfl) ds (by rfl) size_rbank hM hds.1 (by omega) hds.2 _ (whole_store h7.1) ?_; intro w34 hNw34 huw34 hsw34
               clear hsw34
               replace hM := hNw34
               clear hNw34
               replace hA := hA.but huw34 (Nat.ne_of_gt HLA.out)
               replace hP := hP.but huw34 (Nat.ne_of_gt HLP.out.1)
               replace hX := hX.but huw34 (Nat.ne_of_gt HLX.out.1)
               replace hZ := hZ.but huw34 (Nat.ne_of_gt HLZ.out.1)
               replace hY := hY.but huw34 (Nat.ne_of_gt HLY.out.1)
               replace hq := hq.set huw34 (by simp)
               replace hbel := hbel.trans (huw34.below HGM.out hbel.size)
               clear huw34))
        obtain ⟨Hx, hrbx⟩ := hq.rb
        obtain ⟨Mx, hbsx⟩ := hq.bs
        obtain ⟨dc, hdc, hrf, hd5⟩ := hrbx.disk
        obtain ⟨qm, cm, hmvE, htr⟩ := hrbx.map
        obtain ⟨wa, wc, hwt⟩ := hrbx.waits
        obtain ⟨nx, hokx⟩ := hrbx.ok
        obtain ⟨Fx, hdkx⟩ := hbsx.dk
        have hmp := hbsx.mp
        have hbb := hbsx.bb
        have hml := hrbx.mlen
        obtain ⟨LX, hLX⟩ : ∃ LX, LX = D.1.1.laid := ⟨_, rfl⟩
        obtain ⟨LN, hLN⟩ : ∃ LN, LN = LX.length := ⟨_, rfl⟩
        obtain ⟨WN, hWN⟩ : ∃ WN, WN = D.1.1.ws.length := ⟨_, rfl⟩
        obtain ⟨BM, hBM⟩ : ∃ BM, BM = bytesM D.1.2 := ⟨_, rfl⟩
        obtain ⟨ml, hmlE⟩ : ∃ ml, ml = D.1.2.length := ⟨_, rfl⟩
        have hdump : ∀ u, Below w34.heap.size w34 u → Calls Tryd.prog 14 #[.pointer (some ⟨p, 0, none⟩)] u fun e w' => ∃ v, e = .returned v ∧ Below u.heap.size u w' ∧ slB LN LX v w' := fun u hu => by
            refine (dk_dump (hdkx.stays hu)).mono ?_
            rintro e w' ⟨a', c', rfl, ho, hb⟩
            exact ⟨_, rfl, hb, a', c', by rw [hLN, hLX], by rw [hLX]; exact (Out.bs ho hokx.rng).2.1⟩
        have hrdump : ∀ u, Below w34.heap.size w34 u → Calls Tryd.prog 15 #[.agg dc.toArray] u fun e w' => ∃ v, e = .returned v ∧ Below u.heap.size u w' ∧ slB LN LX v w' := fun u hu => by
            refine (rdump_run (hrf.stays hu)).mono ?_
            rintro e w' ⟨a', c', rfl, hB, hb⟩
            exact ⟨_, rfl, hb, a', c', by rw [hLN, hLX], by rw [hLX]; exact hB⟩
        have hwaits : ∀ u, Below w34.heap.size w34 u → Calls Tryd.prog 16 #[.pointer (some ⟨p, 0, none⟩)] u fun e w' => e = .returned (.int .i64 (WN : Int)) ∧ Below u.heap.size u w' := fun u hu => by
            refine (dk_waits (hdkx.stays hu)).mono ?_
            rintro e w' ⟨rfl, rfl⟩
            exact ⟨by rw [hWN], Below.refl _ _⟩
        have hmap : ∀ u, Below w34.heap.size w34 u → Calls Tryd.prog 17 #[.pointer (some ⟨k, 0, none⟩)] u fun e w' => e = .returned (.pointer (some ⟨g, 0, none⟩)) ∧ Below u.heap.size u w' := fun u hu => by
            refine (map_run (hbb.stays hu)).mono ?_
            rintro e w' ⟨rfl, rfl⟩
            exact ⟨rfl, Below.refl _ _⟩
        have htxg : ∀ u, Below w34.heap.size w34 u → Calls Tryd.prog 20 #[.pointer (some ⟨k, 0, none⟩)] u fun e w' => e = .returned (.int .u32 7) ∧ Below u.heap.size u w' := fun u hu => by
            refine (txg_run (hbb.stays hu)).mono ?_
            rintro e w' ⟨rfl, rfl⟩
            exact ⟨rfl, Below.refl _ _⟩
        have hbytes : ∀ u, Below w34.heap.size w34 u → Calls Tryd.prog 18 #[.pointer (some ⟨g, 0, none⟩)] u fun e w' => ∃ v, e = .returned v ∧ Below u.heap.size u w' ∧ slB 64 BM v w' := fun u hu => by
            refine (mbytes_bs u (hmp.stays hu)).mono ?_
            rintro e w' ⟨a', c', rfl, hB, hb⟩
            exact ⟨_, rfl, hb, a', c', rfl, by rw [hBM]; exact hB⟩
        have hrbytes : ∀ u, Below w34.heap.size w34 u → Calls Tryd.prog 19 #[.agg #[.slice (some ⟨qm, 0, none⟩) ml cm]] u fun e w' => ∃ v, e = .returned v ∧ Below u.heap.size u w' ∧ slB 64 BM v w' := fun u hu => by
            rw [hmlE]
            refine (rbytes_run u (htr.stays hu) hml.2).mono ?_
            rintro e w' ⟨a', c', rfl, hB, hb⟩
            exact ⟨_, rfl, hb, a', c', rfl, by rw [hBM]; exact hB⟩
        rw [← hmlE] at hmvE
        rw [← hWN] at hwt
        have hldX : ∀ u, Below w34.heap.size w34 u → (Instr.loadAt 49 (.pointer (some ⟨w26.heap.size, 0, none⟩))).run Tryd.prog u = .ok (.agg tv.toArray) u := fun u hu => run_load_blk agg_told size_told (hX.stays hu) (whole_load htvl) htvl
        have hldY : ∀ u, Below w34.heap.size w34 u → (Instr.loadAt 49 (.pointer (some ⟨w30.heap.size, 0, none⟩))).run Tryd.prog u = .ok (.agg tv.toArray) u := fun u hu => run_load_blk agg_told size_told (hY.stays hu) (whole_load htvl) htvl
        have hldD : ∀ u, Below w34.heap.size w34 u → (Instr.loadAt 30 (.pointer (some ⟨w2.heap.size, 0, none⟩))).run Tryd.prog u = .ok (.agg dc.toArray) u := fun u hu => run_load_blk agg_rdisk size_rdisk (hM.stays hu) hdc hd5
        have hldM : ∀ u, Below w34.heap.size w34 u → (Instr.loadAt 33 (.pointer (some ⟨w2.heap.size, 5, none⟩))).run Tryd.prog u = .ok (.agg #[.slice (some ⟨qm, 0, none⟩) ml cm]) u := fun u hu => run_load_blk agg_rmap size_rmap (hM.stays hu) hmvE rfl
        have hldw : ∀ u, Below w34.heap.size w34 u → u.cell? ⟨w2.heap.size, 1, none⟩ = some (.slice wa WN wc) := fun u hu => ((hM.stays hu).cell 1).trans hwt
        have HCN : Hid (∀ a' c' u, slB LN LX (.slice a' LN c') u → (convert 43 9 (.slice a' LN c')).run Tryd.prog u = .ok (.string (strOfNums LX)) u) := fun a' c' u hu => by
            obtain ⟨a2, c2, he, hB⟩ := hu
            cases he
            exact hB.conv (P := Tryd.prog) LN hLN 43 5 Tryd.underlying43 Tryd.underlying5 9 Tryd.underlying9
        have HCB : Hid (∀ a' c' u, slB 64 BM (.slice a' 64 c') u → (convert 43 9 (.slice a' 64 c')).run Tryd.prog u = .ok (.string (strOfNums BM)) u) := fun a' c' u hu => by
            obtain ⟨a2, c2, he, hB⟩ := hu
            cases he
            exact hB.conv (P := Tryd.prog) 64 (by rw [hBM]; exact (bytesL_len _).symm) 43 5 Tryd.underlying43 Tryd.underlying5 9 Tryd.underlying9
        clear hLX hLN hWN hBM hmlE hdc hrf hmvE htr hwt hokx hdkx hmp hbb hml hrbx hbsx
        refine UpT.wp_region_tail 37 (UpT.tell [(5, slB LN LX), (9, slB LN LX), (15, isV (.int .i64 (WN : Int))), (24, isV (.pointer (some ⟨g, 0, none⟩))), (25, slB 64 BM), (29, slB 64 BM), (35, isV (.int .u32 7))]) (fun _ => false) (by kernel_rfl) (by kernel_rfl) (UpT.tell_steady _ (by
            intro p hp
            simp only [List.mem_cons, List.not_mem_nil, or_false] at hp
            rcases hp with rfl | rfl | rfl | rfl | rfl | rfl | rfl <;> first | exact isV_steady _ | exact slB_steady _ _)) ?_
        simp only [List.take_succ_cons, List.take_zero]
        refine UpT.wpUp_pure (.agg tv.toArray) (by rfl) (by rfl) (fun wz hp => exec_load (by rfl) (by rfl) (hldX wz hp.1)) ?_
        simp only [Act.put, sTA, sT0, sT1]
        refine UpT.wpUp_pure (.agg tv.toArray) (by rfl) (by rfl) (fun wz hp => exec_load (by rfl) (by rfl) (hldY wz hp.1)) ?_
        simp only [Act.put, sTA, sT0, sT1]
        have heq := HTSAME.out
        refine UpT.wpUp_pu ?_
        simp only [Act.put, sTA, sT0, sT1]
        clear heq
        iterate 2 (refine UpT.wpUp_pu ?_; simp only [Act.put, sTA, sT0, sT1])
        refine UpT.wpUp_call _ 14 #[.pointer (some ⟨p, 0, none⟩)] (by rfl) (by rfl) (by rfl) (fun wz => by go_simp) (fun wz hp => hdump wz hp.1) ?_
        rintro v ⟨u, _, hf⟩
        obtain ⟨a5, c5, rfl, _⟩ := hf.of 5 v _ rfl rfl
        clear hf
        simp only [Act.put, sTA, sT0, sT1]
        apply UpT.wpUp_pure
        case hw => rfl
        case hψ => rfl
        case hv => (intro wz hp; have hq3 := HCN.out _ _ _ (hp.2 5 _ _ rfl rfl rfl); clear hp; go_simp; try (with_reducible rfl))
        simp only [Act.put, sTA, sT0, sT1]
        refine UpT.wpUp_pu ?_
        simp only [Act.put, sTA, sT0, sT1]
        refine UpT.wpUp_pure (.agg dc.toArray) (by rfl) (by rfl) (fun wz hp => exec_load (by rfl) (by rfl) (hldD wz hp.1)) ?_
        simp only [Act.put, sTA, sT0, sT1]
        refine UpT.wpUp_call _ 15 #[.agg dc.toArray] (by rfl) (by rfl) (by rfl) (fun wz => by go_simp) (fun wz hp => hrdump wz hp.1) ?_
        rintro v ⟨u, _, hf⟩
        obtain ⟨a6, c6, rfl, _⟩ := hf.of 9 v _ rfl rfl
        clear hf
        simp only [Act.put, sTA, sT0, sT1]
        apply UpT.wpUp_pure
        case hw => rfl
        case hψ => rfl
        case hv => (intro wz hp; have hq3 := HCN.out _ _ _ (hp.2 9 _ _ rfl rfl rfl); clear hp; go_simp; try (with_reducible rfl))
        simp only [Act.put, sTA, sT0, sT1]
        iterate 4 (refine UpT.wpUp_pu ?_; simp only [Act.put, sTA, sT0, sT1])
        refine UpT.wpUp_call _ 16 #[.pointer (some ⟨p, 0, none⟩)] (by rfl) (by rfl) (by rfl) (fun wz => by go_simp) (fun wz hp => calls_isV (hwaits wz hp.1)) ?_
        rintro v ⟨u, _, hf⟩
        obtain rfl := hf.of 15 v _ rfl rfl
        clear hf
        simp only [Act.put, sTA, sT0, sT1]
        iterate 2 (refine UpT.wpUp_pu ?_; simp only [Act.put, sTA, sT0, sT1])
        apply UpT.wpUp_pure
        case hw => rfl
        case hψ => rfl
        case hv => (intro wz hp; have hcc := hldw wz hp.1; clear hp; go_simp; try (with_reducible rfl))
        simp only [Act.put, sTA, sT0, sT1]
        iterate 5 (refine UpT.wpUp_pu ?_; simp only [Act.put, sTA, sT0, sT1])
        refine UpT.wpUp_call _ 17 #[.pointer (some ⟨k, 0, none⟩)] (by rfl) (by rfl) (by rfl) (fun wz => by go_simp) (fun wz hp => calls_isV (hmap wz hp.1)) ?_
        rintro v ⟨u, _, hf⟩
        obtain rfl := hf.of 24 v _ rfl rfl
        clear hf
        simp only [Act.put, sTA, sT0, sT1]
        refine UpT.wpUp_call _ 18 #[.pointer (some ⟨g, 0, none⟩)] (by rfl) (by rfl) (by rfl) (fun wz => by go_simp) (fun wz hp => hbytes wz hp.1) ?_
        rintro v ⟨u, _, hf⟩
        obtain ⟨a7, c7, rfl, _⟩ := hf.of 25 v _ rfl rfl
        clear hf
        simp only [Act.put, sTA, sT0, sT1]
        apply UpT.wpUp_pure
        case hw => rfl
        case hψ => rfl
        case hv => (intro wz hp; have hq3 := HCB.out _ _ _ (hp.2 25 _ _ rfl rfl rfl); clear hp; go_simp; try (with_reducible rfl))
        simp only [Act.put, sTA, sT0, sT1]
        refine UpT.wpUp_pu ?_
        simp only [Act.put, sTA, sT0, sT1]
        refine UpT.wpUp_pure (.agg #[.slice (some ⟨qm, 0, none⟩) ml cm]) (by rfl) (by rfl) (fun wz hp => exec_load (by rfl) (by rfl) (hldM wz hp.1)) ?_
        simp only [Act.put, sTA, sT0, sT1]
        refine UpT.wpUp_call _ 19 #[.agg #[.slice (some ⟨qm, 0, none⟩) ml cm]] (by rfl) (by rfl) (by rfl) (fun wz => by go_simp) (fun wz hp => hrbytes wz hp.1) ?_
        rintro v ⟨u, _, hf⟩
        obtain ⟨a8, c8, rfl, _⟩ := hf.of 29 v _ rfl rfl
        clear hf
        simp only [Act.put, sTA, sT0, sT1]
        apply UpT.wpUp_pure
        case hw => rfl
        case hψ => rfl
        case hv => (intro wz hp; have hq3 := HCB.out _ _ _ (hp.2 29 _ _ rfl rfl rfl); clear hp; go_simp; try (with_reducible rfl))
        simp only [Act.put, sTA, sT0, sT1]
        iterate 4 (refine UpT.wpUp_pu ?_; simp only [Act.put, sTA, sT0, sT1])
        refine UpT.wpUp_call _ 20 #[.pointer (some ⟨k, 0, none⟩)] (by rfl) (by rfl) (by rfl) (fun wz => by go_simp) (fun wz hp => calls_isV (htxg wz hp.1)) ?_
        rintro v ⟨u, _, hf⟩
        obtain rfl := hf.of 35 v _ rfl rfl
        clear hf
        simp only [Act.put, sTA, sT0, sT1]
        refine UpT.wpUp_pu ?_
        simp only [Act.put, sTA, sT0, sT1]
        refine UpT.wpUp_end ?_
        intro wy hby hf
        clear hf
        simp only [List.drop_succ_cons, List.drop_zero]
        clear hdump hrdump hwaits hmap htxg hbytes hrbytes hldX hldY hldD hldM hldw
        replace hq := hq.stays hby
        replace hM := hM.stays hby
        replace hA := hA.stays hby
        replace hX := hX.stays hby
        replace hbel := hq.bel
        clear hby
        have hc0 : wy.cell? ⟨wr.heap.size, 0, none⟩ = some (.int .i64 kd) := (hA.cell 0).trans HC.out.1
        have hce : wy.cell? ⟨w26.heap.size, 39, none⟩ = some (.int .i64 ev) := (hX.cell 39).trans HTE.out
        by_cases hk1 : kd = 1
        · subst hk1
          by_cases he1 : ev = 0
          · subst he1
            go_wp2_with (first
                | ((with_reducible show wpList _ _ _ (Oper.mk _ (Op.load 42 (.tmp 124)) _ _ _ _ :: _) _ _); refine wpList_load_blk (by rfl) (.tmp 124) 42 (by rfl) _ 0 35 (by rfl) agg_ptr size_ptr hX tpv HTP.out htpl ?_)
                | ((with_reducible show wpList _ _ _ (Oper.mk _ (Op.buildSlice 38 1 _) _ _ _ _ :: _) _ _); refine wpList_onep (by rfl) (.tmp 125) (by rfl) (some 126) (by rfl) tpv (by rfl) HONE.out ?_; intro wi b9 hb9e hRi hbi hsi
                   rw [HTPV.out] at hRi
                   replace hq := hq.stays hbi
                   replace hM := hM.stays hbi
                   clear hbi hsi hb9e)
                | ((with_reducible show wpList _ _ _ (Oper.mk _ (Op.call { callee := _, args := #[Operand.tmp 123, Operand.tmp 126], argTypes := _ }) _ _ _ _ :: _) _ _); go_must (refine wpList_append_ptr (by rfl) (.tmp 123) (.tmp 126) (by rfl) w.heap.size (.slice pa L pc) _ (by rfl) hq.pl b9 D.2.p HTOK.out (by rfl) hRi (by have := HS.out; omega) hq.bel.size ?_); intro v8 w8 hP8 hg8 hr8
                   have hnM : ¬ rowOf (.slice pa L pc) w2.heap.size := hq.notrow (by simp)
                   have hlM := hM.lt
                   have hM8 : Blk 36 w8 w2.heap.size ds := grown_blk hM hg8 hnM
                   have hq8 := hq.more hP8 hg8 hr8
                   replace hq := hq8
                   replace hM := hM8
                   clear hg8 hr8 hP8 hRi hq8 hM8 hnM hlM))
            go_roundw
            case rel => exact ⟨i + 1, D.1.1, D.1.2, ps ++ [D.2.p], ds, by go_num, by omega, by omega, hq.less (N' := fun j => j = w2.heap.size) (fun j hj => by rw [hj]; simp), hM, (by show _ ∧ _; have := HS.out; have := HDL.out; exact ⟨by omega, (by rw [List.length_append, List.length_singleton]; omega)⟩)⟩
            case measure => simp [intOf]; omega
          · have hee1 : (ev == 0) = false := by simp [he1]
            have hee2 : decide (ev = 0) = false := by simp [he1]
            go_wp2
            go_roundw
            case rel => exact ⟨i + 1, D.1.1, D.1.2, ps, ds, by go_num, by omega, by omega, hq.less (N' := fun j => j = w2.heap.size) (fun j hj => by rw [hj]; simp), hM, (by show _ ∧ _; have := HS.out; have := HDL.out; exact ⟨by omega, by omega⟩)⟩
            case measure => simp [intOf]; omega
        · have hkk1 : (kd == 1) = false := by simp [hk1]
          have hkk2 : decide (kd = 1) = false := by simp [hk1]
          go_wp2
          go_roundw
          case rel => exact ⟨i + 1, D.1.1, D.1.2, ps, ds, by go_num, by omega, by omega, hq.less (N' := fun j => j = w2.heap.size) (fun j hj => by rw [hj]; simp), hM, (by show _ ∧ _; have := HS.out; have := HDL.out; exact ⟨by omega, by omega⟩)⟩
          case measure => simp [intOf]; omega
  · have HEND : Hid (¬ (i < n ∧ i < 30)) := hlt
    clear hlt
    by_cases hlt : i < n
    · have hq1 : decide ((i : Int) < (n : Int)) = true := by simp; omega
      have hq2 : decide ((i : Int) < 30) = false := by have := HEND.out; simp; omega
      go_wp2_with (first
       | (go_at_call 21; go_must (refine (hal _ HVr.out).mono ?_); rintro e w9 ⟨rfl, hb9⟩))
      go_ret
      exact ⟨rfl, below_then hbel hb9⟩
    · have hq1 : decide ((i : Int) < (n : Int)) = false := by simp; omega
      go_wp2_with (first
       | (go_at_call 21; go_must (refine (hal _ HVr.out).mono ?_); rintro e w9 ⟨rfl, hb9⟩))
      go_ret
      exact ⟨rfl, below_then hbel hb9⟩
end Go.Proofs.YthbldjnpnligpaaDoor
