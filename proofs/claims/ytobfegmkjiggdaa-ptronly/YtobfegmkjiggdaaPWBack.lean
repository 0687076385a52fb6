/-
  PtrBack: what may be is decoded as it was encoded, and only that: the statement's walk.
-/
import Derived.Test.YtobfegmkjiggdaaPtrAlive
import Derived.Test.YtobfegmkjiggdaaUp
namespace Go.Proofs.Ytobfegmkjiggdaa
set_option linter.unusedSimpArgs false
set_option linter.unusedVariables false
open Go.RowKit

theorem exec_load {P : Program} {a : Act} {o : Oper} {w : World} {t : TypeId} {x : Operand} {p : Addr} {v : Value} (ho : o.op = Op.load t x) (hx : a.eval x = .pointer (some p)) (hr : (Instr.loadAt t (.pointer (some p))).run P w = .ok v w) :
    (execOp a.eval o).run P w = .ok (.value v) w := by
  unfold execOp
  simp only [ho, hx, Sem.run_bind, Sem.run_pure, Result.andThen_ok, hr]

theorem piece_encs {l : List Pt} (hl : ∀ p ∈ l, p.ok) (rest : List Int) {k : Nat} (hk : k < l.length) : piece (encs l ++ rest) k = (nth l k).enc := by
  have h1 : l = l.take k ++ (nth l k :: l.drop (k + 1)) := by
    unfold nth
    rw [List.getD_eq_getElem?_getD, List.getElem?_eq_getElem hk]
    simp
  have h2 := encs_take_len hl (show k ≤ l.length by omega)
  have h3 := Pt.enc_len (nth_ok hl k)
  unfold piece
  rw [show encs l = encs (l.take k) ++ ((nth l k).enc ++ encs (l.drop (k + 1))) by
    conv => lhs; rw [h1]
    rw [encs_append]; rfl]
  rw [← h2, List.append_assoc, List.drop_left, List.append_assoc, ← h3, List.take_left]

theorem pieces_node {l : List Pt} (hl : ∀ p ∈ l, p.ok) (h4 : l.length = 4) : pieces (nodeL l) = l := by
  unfold pieces nodeL
  rw [piece_encs hl _ (by omega), piece_encs hl _ (by omega), piece_encs hl _ (by omega), piece_encs hl _ (by omega)]
  rw [decP_enc (nth_ok hl 0), decP_enc (nth_ok hl 1), decP_enc (nth_ok hl 2), decP_enc (nth_ok hl 3)]
  match l, h4 with
  | [a, b, c, d], _ => rfl

theorem readL_node {l : List Pt} (hl : ∀ p ∈ l, p.ok) (h4 : l.length = 4) : readL (nodeL l) = if l.all Pt.may then (l, 0) else (zeros4, 3) := by
  unfold readL
  rw [if_pos (nodeL_len hl h4), pieces_node hl h4]
  have h : (nodeL l).drop 176 = List.replicate 80 0 := by
    unfold nodeL
    rw [show 176 = (encs l).length by rw [encs_len hl, h4], List.drop_left]
  rw [h]
  have h2 : (List.replicate 80 (0 : Int)).all (· == 0) = true := by decide
  rw [h2, Bool.and_true]

set_option maxHeartbeats 4000000 in
set_option maxRecDepth 100000 in
theorem back_walk (l : List Pt) (hl : ∀ p ∈ l, p.ok) (h4 : l.length = 4) (w : World) :
    Calls Try.prog 6 #[.agg (fourV l).toArray] w fun e w' => e = .returned (.bool true) ∧ Below w.heap.size w w' := by
  have hfl : (fourV l).length = 140 := by rw [fourV_len hl, h4]
  have hpz : Pt.zero.vs.length = 35 := Pt.vs_len Pt.zero_ok
  have hz4 : ((List.replicate 44 (0 : Int)).map (Value.int .u8)).length = 44 := rfl
  obtain ⟨fv, hfv⟩ : ∃ fv, fv = fourV l := ⟨_, rfl⟩
  have HPT : Hid (∀ k : Nat, k < 4 → (nth l k).vs = (fv.drop (k * 35)).take 35) := fun k hk => by rw [hfv]; exact four_part hl (by omega)
  have HFV : Hid (fv = fourV l) := hfv
  rw [← hfv] at hfl ⊢
  clear hfv
  go_enter Try.func6, Try.ntmps6
  go_wp2_with (first
    | (refine wpList_box0 (by rfl) 36 (.tmp 0) (by rfl) fv (by rfl) ?_; intro w1 hF1 hb1 hs1))
  go_loopw [3, 4] (fun v i wr => ∃ k : Nat, k ≤ 4 ∧ i = .int .i64 k ∧ v = .bool ((l.take k).all Pt.may) ∧ Blk 36 wr w.heap.size fv ∧ Below w.heap.size w wr) (fun _ i _ => 4 - (intOf i).toNat)
  case atStart => exact ⟨0, by omega, rfl, rfl, hF1, hb1⟩
  case round =>
    rename_i hrel
    obtain ⟨k, hk, rfl, rfl, hF, hbr⟩ := hrel
    clear hF1 hb1 hs1
    have hsz := hbr.size
    have hFl := hF.lt
    obtain ⟨A, hA⟩ : ∃ A, A = (l.take k).all Pt.may := ⟨_, rfl⟩
    rw [← hA]
    have HA : Hid (A = (l.take k).all Pt.may) := hA
    clear hA
    by_cases hlt : k < 4
    · obtain ⟨p, hp⟩ : ∃ p, p = nth l k := ⟨_, rfl⟩
      have hok : p.ok := hp ▸ nth_ok hl k
      have hpt := HPT.out k hlt
      have HT : Hid (l.take (k + 1) = l.take k ++ [p]) := by rw [hp]; exact take_nth (by omega)
      have hvl := Pt.vs_len hok
      have hel := Pt.enc_len hok
      have hevl : (p.enc.map (Value.int .u8)).length = 44 := by rw [List.length_map]; exact hel
      have her := Pt.enc_rng hok
      have hix : ∀ u : World, (Instr.indexAt 36 (.pointer (some ⟨w.heap.size, 0, none⟩)) (.int .i64 (k : Int))).run Try.prog u = .ok (.pointer (some ⟨w.heap.size, k * 35, none⟩)) u := fun u => by
        have := index_ptr (P := Try.prog) (g := w.heap.size) (off := 0) (K := .i64) Try.underlying36 sizes26 hlt u
        rw [Nat.zero_add] at this
        exact this
      rw [← hp] at hpt
      have HP : Hid (p.vs = (fv.drop (k * 35)).take 35) := hpt
      have HEN : Hid (∀ u, Calls Try.prog 8 #[.agg p.vs.toArray] u fun e w' => e = .returned (.agg (p.enc.map (Value.int .u8)).toArray) ∧ Below u.heap.size u w') := encode_run p hok
      have HMA : Hid (∀ u, Calls Try.prog 11 #[.agg p.vs.toArray] u fun e w' => e = .returned (.bool p.may) ∧ Below u.heap.size u w') := may_run p hok
      have HDE : Hid (∀ u g, Bs u (some ⟨g, 0, none⟩) 44 p.enc → Calls Try.prog 17 #[.slice (some ⟨g, 0, none⟩) 44 44] u fun e w' => e = .returned (.tuple #[.agg (decodeL p.enc).1.vs.toArray, .int .i64 ((decodeL p.enc).2 : Int)]) ∧ Below u.heap.size u w') := fun u g hB => decode_run (some ⟨g, 0, none⟩) 44 44 p.enc u hel.symm hB
      have HDL : Hid (decodeL p.enc = if p.may then (p, 0) else (Pt.zero, 3)) := decodeL_enc hok
      have HBZ : Hid (∀ w : World, (Instr.build 26 #[]).run Try.prog w = .ok (.agg Pt.zero.vs.toArray) w) := build_ptr0
      have heq : ∀ u, (Op.equalIn 10000 26 (.agg p.vs.toArray) (.agg p.vs.toArray)).run Try.prog u = .ok true u := fun u => by rw [equal_ptr hok hok 9997 u, Pt.same_self]
      have heqz : ∀ u, (Op.equalIn 10000 26 (.agg Pt.zero.vs.toArray) (.agg Pt.zero.vs.toArray)).run Try.prog u = .ok true u := fun u => by rw [equal_ptr Pt.zero_ok Pt.zero_ok 9997 u, Pt.same_self]
      clear hp hpt
      cases hmv : p.may
      · have hdl := HDL.out
        rw [hmv, if_neg (by simp)] at hdl
        have hd := HDE.out
        rw [hdl] at hd
        have hm := HMA.out
        rw [hmv] at hm
        have HD : Hid (∀ u g, Bs u (some ⟨g, 0, none⟩) 44 p.enc → Calls Try.prog 17 #[.slice (some ⟨g, 0, none⟩) 44 44] u fun e w' => e = .returned (.tuple #[.agg Pt.zero.vs.toArray, .int .i64 3]) ∧ Below u.heap.size u w') := hd
        have HM : Hid (∀ u, Calls Try.prog 11 #[.agg p.vs.toArray] u fun e w' => e = .returned (.bool false) ∧ Below u.heap.size u w') := hm
        clear hdl hd hm HDE HDL HMA
        go_wp2_with (first
          | (refine wpList_load_blk (by rfl) (.tmp 16) 26 (by rfl) _ (k * 35) 35 (by rfl) agg_ptr size_ptr hF _ HP.out hvl ?_)
          | (go_at_call 8; go_must (refine (HEN.out _).mono ?_); rintro e w3 ⟨rfl, hb3⟩; have hF3 := hF.stays hb3)
          | (refine wpList_alloc0 (by rfl) 27 (by rfl) (some 5) (by rfl) _ alloc_44 ?_; intro w4 hE4 hb4 hs4; have hF4 := hF3.stays hb4)
          | (refine wpList_store_blk (by rfl) (.tmp 5) (.tmp 18) 27 (by rfl) _ 0 44 (by rfl) _ (by rfl) size_44 hE4 hevl (by rw [hz4]; omega) (int_oneCell _ _) _ (whole_store hz4) ?_
             intro w5 hE5 hbut5 hs5; have hF5 := hF4.but hbut5 (by have := hb3.size; omega)
             have hD5 := HD.out w5 _ ⟨her, by omega, by decide, by simp, .inr ⟨_, 0, rfl, fun i hi => by rw [hE5.cell]; simp [List.getD, hi]⟩⟩)
          | (go_at_call 17; go_must (refine hD5.mono ?_); rintro e w6 ⟨rfl, hb6⟩; have hF6 := hF5.stays hb6)
          | (refine wpList_alloc0 (by rfl) 26 (by rfl) (some 6) (by rfl) Pt.zero.vs alloc_ptr0 ?_; intro w7 hQ7 hb7 hs7; have hF7 := hF6.stays hb7)
          | (refine wpList_store_blk (by rfl) (.tmp 6) (.tmp 22) 26 (by rfl) _ 0 35 (by rfl) _ (by rfl) size_ptr hQ7 hpz (by omega) (Pt.vs_one _) _ (whole_store hpz) ?_
             intro w8 hQ8 hbut8 hs8; have hF8 := hF7.but hbut8 (by have := hb3.size; have := hb6.size; omega)))
        refine Up.wp_region_up (Up.tell []) (by kernel_rfl) (by kernel_rfl) (Up.tell_steady _ (by simp)) ?_
        repeat (first
          | (refine Up.wpUp_pass (by rfl) ?_; simp only [Act.put, List.setIfInBounds_toArray, List.set_cons_zero, List.set_cons_succ])
          | (apply Up.wpUp_pure
             case hw => rfl
             case hψ => rfl
             case hv => (intro w1 hp; clear hp; go_simp; try (with_reducible rfl))
             simp only [Act.put, List.setIfInBounds_toArray, List.set_cons_zero, List.set_cons_succ]))
        refine Up.wpUp_end ?_
        intro w9 hb9 _
        have hF9 := hF8.stays hb9
        have hQ9 := hQ8.stays hb9
        have hX9 : Below w.heap.size w w9 := by
          have z3 := hb3.size
          have z6 := hb6.size
          have k4 := (hbr.trans (hb3.mono (by omega))).trans (hb4.mono (by omega))
          have k5 := k4.trans (hbut5.below (by omega) (by omega))
          have k7 := (k5.trans (hb6.mono (by omega))).trans (hb7.mono (by omega))
          have k8 := k7.trans (hbut8.below (by omega) (by omega))
          exact k8.trans (hb9.mono (by omega))
        clear hF hF3 hF4 hF5 hF6 hF7 hF8 hE4 hE5 hQ7 hQ8 hb3 hb4 hb6 hb7 hb9 hbut5 hbut8 hs4 hs5 hs7 hs8 hD5
        go_wp2_with (first
          | (refine wpList_load_blk (by rfl) (.tmp 35) 26 (by rfl) _ (k * 35) 35 (by rfl) agg_ptr size_ptr hF9 _ HP.out hvl ?_)
          | (go_at_call 11; go_must (refine (HM.out _).mono ?_); rintro e w10 ⟨rfl, hb10⟩; have hF10 := hF9.stays hb10; have hQ10 := hQ9.stays hb10)
          | (refine wpList_load_blk_guard (by rfl) (.tmp 6) 26 (by rfl) _ 0 35 (by rfl) agg_ptr size_ptr hQ10 _ (whole_load hpz) hpz ?_)
          | (refine wpList_build0 (by rfl) 26 (by rfl) _ HBZ.out ?_))
        all_goals go_roundw
        all_goals first
          | exact ⟨k + 1, by omega, by go_num, by rw [HT.out, List.all_append, ← HA.out]; simp [*], hF10, hX9.trans (hb10.mono hX9.size)⟩
          | (simp [intOf]; omega)
      · have hdl := HDL.out
        rw [hmv, if_pos rfl] at hdl
        have hd := HDE.out
        rw [hdl] at hd
        have hm := HMA.out
        rw [hmv] at hm
        have HD : Hid (∀ u g, Bs u (some ⟨g, 0, none⟩) 44 p.enc → Calls Try.prog 17 #[.slice (some ⟨g, 0, none⟩) 44 44] u fun e w' => e = .returned (.tuple #[.agg p.vs.toArray, .int .i64 0]) ∧ Below u.heap.size u w') := hd
        have HM : Hid (∀ u, Calls Try.prog 11 #[.agg p.vs.toArray] u fun e w' => e = .returned (.bool true) ∧ Below u.heap.size u w') := hm
        clear hdl hd hm HDE HDL HMA
        go_wp2_with (first
          | (refine wpList_load_blk (by rfl) (.tmp 16) 26 (by rfl) _ (k * 35) 35 (by rfl) agg_ptr size_ptr hF _ HP.out hvl ?_)
          | (go_at_call 8; go_must (refine (HEN.out _).mono ?_); rintro e w3 ⟨rfl, hb3⟩; have hF3 := hF.stays hb3)
          | (refine wpList_alloc0 (by rfl) 27 (by rfl) (some 5) (by rfl) _ alloc_44 ?_; intro w4 hE4 hb4 hs4; have hF4 := hF3.stays hb4)
          | (refine wpList_store_blk (by rfl) (.tmp 5) (.tmp 18) 27 (by rfl) _ 0 44 (by rfl) _ (by rfl) size_44 hE4 hevl (by rw [hz4]; omega) (int_oneCell _ _) _ (whole_store hz4) ?_
             intro w5 hE5 hbut5 hs5; have hF5 := hF4.but hbut5 (by have := hb3.size; omega)
             have hD5 := HD.out w5 _ ⟨her, by omega, by decide, by simp, .inr ⟨_, 0, rfl, fun i hi => by rw [hE5.cell]; simp [List.getD, hi]⟩⟩)
          | (go_at_call 17; go_must (refine hD5.mono ?_); rintro e w6 ⟨rfl, hb6⟩; have hF6 := hF5.stays hb6)
          | (refine wpList_alloc0 (by rfl) 26 (by rfl) (some 6) (by rfl) Pt.zero.vs alloc_ptr0 ?_; intro w7 hQ7 hb7 hs7; have hF7 := hF6.stays hb7)
          | (refine wpList_store_blk (by rfl) (.tmp 6) (.tmp 22) 26 (by rfl) _ 0 35 (by rfl) _ (by rfl) size_ptr hQ7 hvl (by omega) (Pt.vs_one _) _ (whole_store hpz) ?_
             intro w8 hQ8 hbut8 hs8; have hF8 := hF7.but hbut8 (by have := hb3.size; have := hb6.size; omega)))
        have HL6 : Hid (∀ u : World, Below w8.heap.size w8 u → (Instr.loadAt 26 (.pointer (some ⟨w6.heap.size, 0, none⟩))).run Try.prog u = .ok (.agg p.vs.toArray) u) := fun u hu => run_load_blk agg_ptr size_ptr (hQ8.stays hu) (whole_load hvl) hvl
        have HL29 : Hid (∀ u : World, Below w8.heap.size w8 u → (Instr.loadAt 26 (.pointer (some ⟨w.heap.size, k * 35, none⟩))).run Try.prog u = .ok (.agg p.vs.toArray) u) := fun u hu => run_load_blk agg_ptr size_ptr (hF8.stays hu) HP.out hvl
        refine Up.wp_region_up (Up.tell []) (by kernel_rfl) (by kernel_rfl) (Up.tell_steady _ (by simp)) ?_
        repeat (first
          | (refine Up.wpUp_pass (by rfl) ?_; simp only [Act.put, List.setIfInBounds_toArray, List.set_cons_zero, List.set_cons_succ])
          | (refine Up.wpUp_pure (.agg p.vs.toArray) (by rfl) (by rfl) (fun w1 hp => exec_load (t := 26) (x := .tmp 6) (p := ⟨w6.heap.size, 0, none⟩) (by rfl) (by rfl) (HL6.out w1 hp.1)) ?_; simp only [Act.put, List.setIfInBounds_toArray, List.set_cons_zero, List.set_cons_succ])
          | (refine Up.wpUp_pure (.agg p.vs.toArray) (by rfl) (by rfl) (fun w1 hp => exec_load (t := 26) (x := .tmp 29) (p := ⟨w.heap.size, k * 35, none⟩) (by rfl) (by rfl) (HL29.out w1 hp.1)) ?_; simp only [Act.put, List.setIfInBounds_toArray, List.set_cons_zero, List.set_cons_succ])
          | (apply Up.wpUp_pure
             case hw => rfl
             case hψ => rfl
             case hv => (intro w1 hp; clear hp; go_simp; try (with_reducible rfl))
             simp only [Act.put, List.setIfInBounds_toArray, List.set_cons_zero, List.set_cons_succ]))
        refine Up.wpUp_end ?_
        intro w9 hb9 _
        have hF9 := hF8.stays hb9
        have hQ9 := hQ8.stays hb9
        have hX9 : Below w.heap.size w w9 := by
          have z3 := hb3.size
          have z6 := hb6.size
          have k4 := (hbr.trans (hb3.mono (by omega))).trans (hb4.mono (by omega))
          have k5 := k4.trans (hbut5.below (by omega) (by omega))
          have k7 := (k5.trans (hb6.mono (by omega))).trans (hb7.mono (by omega))
          have k8 := k7.trans (hbut8.below (by omega) (by omega))
          exact k8.trans (hb9.mono (by omega))
        clear hF hF3 hF4 hF5 hF6 hF7 hF8 hE4 hE5 hQ7 hQ8 hb3 hb4 hb6 hb7 hb9 hbut5 hbut8 hs4 hs5 hs7 hs8 hD5
        clear HL6 HL29
        go_wp2_with (first
          | (refine wpList_load_blk (by rfl) (.tmp 35) 26 (by rfl) _ (k * 35) 35 (by rfl) agg_ptr size_ptr hF9 _ HP.out hvl ?_)
          | (go_at_call 11; go_must (refine (HM.out _).mono ?_); rintro e w10 ⟨rfl, hb10⟩; have hF10 := hF9.stays hb10))
        all_goals go_roundw
        all_goals first
          | exact ⟨k + 1, by omega, by go_num, by rw [HT.out, List.all_append, ← HA.out]; simp [*], hF10, hX9.trans (hb10.mono hX9.size)⟩
          | (simp [intOf]; omega)
    · have hk4 : k = 4 := by omega
      subst hk4
      have hA4 := HA.out
      rw [List.take_of_length_le (by omega)] at hA4
      have hrl := readL_node hl h4
      rw [← hA4] at hrl
      have hnl := nodeL_len hl h4
      have HND : Hid (∀ u, Calls Try.prog 21 #[.agg fv.toArray] u fun e w' => ∃ a c, e = .returned (.slice a 256 c) ∧ Bs w' a c (nodeL l) ∧ Below u.heap.size u w') := by rw [HFV.out]; exact node_run l hl h4
      have HRD : Hid (∀ a c u, Bs u a c (nodeL l) → Calls Try.prog 19 #[.slice a 256 c] u fun e w' => e = .returned (.tuple #[.agg (fourV (readL (nodeL l)).1).toArray, .int .i64 ((readL (nodeL l)).2 : Int)]) ∧ Below u.heap.size u w') := fun a c u hB => read_run a c 256 (nodeL l) u hnl.symm hB
      have hzl : (fourV zeros4).length = 140 := zeros4_len
      have heq : ∀ u, (Op.equalIn 10000 36 (.agg fv.toArray) (.agg fv.toArray)).run Try.prog u = .ok true u := fun u => by
        rw [HFV.out, equal_four hl hl h4 h4 9996 u, (sameAll_iff rfl).2 rfl]
      have hf1 : ∀ v ∈ fv, v.oneCell' = true := by rw [HFV.out]; exact fourV_one _
      obtain ⟨zs, hzs⟩ : ∃ zs, zs = fourV zeros4 := ⟨_, rfl⟩
      have HAL : Hid (∀ w : World, (Instr.alloc 36 true (.tuple #[])).run Try.prog w = .ok (.pointer (some ⟨w.heap.size, 0, none⟩)) (w.alloc (.cells zs.toArray 36))) := by rw [hzs]; exact alloc_four0
      have hz1 : ∀ v ∈ zs, v.oneCell' = true := by rw [hzs]; exact fourV_one _
      have HAV : Hid (∀ u, Calls Try.prog 9 #[] u fun e w' => e = .returned (.bool true) ∧ Below u.heap.size u w') := alive_run
      have HZS : Hid (zs = fourV zeros4) := hzs
      rw [← hzs] at hzl
      clear hzs hA4
      cases A
      · rw [if_neg (by simp)] at hrl
        have hrd := HRD.out
        rw [hrl] at hrd
        have HR : Hid (∀ a c u, Bs u a c (nodeL l) → Calls Try.prog 19 #[.slice a 256 c] u fun e w' => e = .returned (.tuple #[.agg zs.toArray, .int .i64 3]) ∧ Below u.heap.size u w') := by rw [HZS.out]; exact hrd
        clear hrl hrd HRD
        go_wp2_with (first
          | (refine wpList_load_blk (by rfl) (.tmp 1) 36 (by rfl) _ 0 140 (by rfl) agg_four size_four hF _ (whole_load hfl) hfl ?_)
          | (go_at_call 21; go_must (refine (HND.out _).mono ?_); rintro e w3 ⟨a3, c3, rfl, hB3, hb3⟩)
          | (go_at_call 19; go_must (refine (HR.out _ _ _ hB3).mono ?_); rintro e w4 ⟨rfl, hb4⟩)
          | (refine wpList_alloc0 (by rfl) 36 (by rfl) (some 9) (by rfl) zs HAL.out ?_; intro w5 hL5 hb5 hs5)
          | (refine wpList_store_blk (by rfl) (.tmp 9) (.tmp 60) 36 (by rfl) _ 0 140 (by rfl) _ (by rfl) size_four hL5 hzl (by omega) hz1 _ (whole_store hzl) ?_
             intro w6 hL6 hbut6 hs6)
          | (go_at_call 9; go_must (refine (HAV.out _).mono ?_); rintro e w7 ⟨rfl, hb7⟩))
        go_ret
        refine ⟨rfl, ?_⟩
        have z3 := hb3.size
        have z4 := hb4.size
        exact ((((hbr.trans (hb3.mono (by omega))).trans (hb4.mono (by omega))).trans (hb5.mono (by omega))).trans (hbut6.below (by omega) (by omega))).trans (hb7.mono (by omega))
      · rw [if_pos rfl] at hrl
        have hrd := HRD.out
        rw [hrl] at hrd
        have HR : Hid (∀ a c u, Bs u a c (nodeL l) → Calls Try.prog 19 #[.slice a 256 c] u fun e w' => e = .returned (.tuple #[.agg fv.toArray, .int .i64 0]) ∧ Below u.heap.size u w') := by rw [HFV.out]; exact hrd
        clear hrl hrd HRD
        go_wp2_with (first
          | (refine wpList_load_blk (by rfl) (.tmp 1) 36 (by rfl) _ 0 140 (by rfl) agg_four size_four hF _ (whole_load hfl) hfl ?_)
          | (go_at_call 21; go_must (refine (HND.out _).mono ?_); rintro e w3 ⟨a3, c3, rfl, hB3, hb3⟩; have hF3 := hF.stays hb3)
          | (go_at_call 19; go_must (refine (HR.out _ _ _ hB3).mono ?_); rintro e w4 ⟨rfl, hb4⟩; have hF4 := hF3.stays hb4)
          | (refine wpList_alloc0 (by rfl) 36 (by rfl) (some 9) (by rfl) zs HAL.out ?_; intro w5 hL5 hb5 hs5; have hF5 := hF4.stays hb5)
          | (refine wpList_store_blk (by rfl) (.tmp 9) (.tmp 60) 36 (by rfl) _ 0 140 (by rfl) _ (by rfl) size_four hL5 hfl (by omega) hf1 _ (whole_store hzl) ?_
             intro w6 hL6 hbut6 hs6; have hF6 := hF5.but hbut6 (by have := hb3.size; have := hb4.size; omega))
          | (go_at_call 9; go_must (refine (HAV.out _).mono ?_); rintro e w7 ⟨rfl, hb7⟩; have hF7 := hF6.stays hb7; have hL7 := hL6.stays hb7)
          | (refine wpList_load_blk_guard (by rfl) (.tmp 9) 36 (by rfl) _ 0 140 (by rfl) agg_four size_four hL7 _ (whole_load hfl) hfl ?_)
          | (refine wpList_load_blk_guard (by rfl) (.tmp 1) 36 (by rfl) _ 0 140 (by rfl) agg_four size_four hF7 _ (whole_load hfl) hfl ?_))
        go_ret
        refine ⟨rfl, ?_⟩
        have z3 := hb3.size
        have z4 := hb4.size
        exact ((((hbr.trans (hb3.mono (by omega))).trans (hb4.mono (by omega))).trans (hb5.mono (by omega))).trans (hbut6.below (by omega) (by omega))).trans (hb7.mono (by omega))
end Go.Proofs.Ytobfegmkjiggdaa
