/-
  The walk over the document's Decode of a label.
-/
import Derived.Test.YthbcphalokoknaaDoorG23
namespace Go.Proofs.YthbcphalokoknaaDoor
set_option linter.unusedSimpArgs false
set_option linter.unusedVariables false
set_option maxRecDepth 100000
open Go.RowKit

def blkL (B : Nat) (vs : List Value) : Value → World → Prop := fun v w => ∃ g, v = .pointer (some ⟨g, 0, none⟩) ∧ B ≤ g ∧ Blk 29 w g vs
theorem blkL_steady (B : Nat) (vs : List Value) : UpT.Steady (blkL B vs) := fun v w w' hb ⟨g, h1, h2, h3⟩ => ⟨g, h1, h2, h3.stays hb⟩
theorem exec_alloc7 {P : Program} {a : Act} {o : Oper} {w w' : World} {t : TypeId} {v : Value} (ho : o.op = Op.alloc t) (hr : (Instr.alloc t true (.tuple #[])).run P w = .ok v w') : (execOp a.eval o).run P w = .ok (.value v) w' := by
  unfold execOp
  simp only [ho, Sem.run_bind, Sem.run_pure, Result.andThen_ok, hr]
theorem exec_build7 {P : Program} {a : Act} {o : Oper} {w : World} {t : TypeId} (ps : List (Nat × Operand)) (ho : o.op = Op.build t ps.toArray) (qs : List (Nat × Value)) (hq : ps.map (fun q => (q.1, a.eval q.2)) = qs) {V : Value} (hr : (Instr.build t qs.toArray).run P w = .ok V w) : (execOp a.eval o).run P w = .ok (.value V) w := by
  have e : ps.toArray.map (fun (i, x) => (i, a.eval x)) = qs.toArray := by rw [List.map_toArray, ← hq]
  unfold execOp
  simp only [ho, Sem.run_bind, Sem.run_pure, Result.andThen_ok, e, hr]

set_option maxHeartbeats 4000000 in
theorem lrdec_len (a : Option Addr) (c n : Nat) (w : World) (hn : n ≠ 256) (hn1 : n ≤ 9223372036854775807) :
    Calls Tryd.prog 14 #[.slice a n c] w fun e w' => e = .returned (.tuple #[.agg (Lb.zero.vs none 0).toArray, .int .i64 3]) ∧ Below w.heap.size w w' := by
  have h256 : ((n : Int) == 256) = false := by simp; omega
  have hzl := zero_vs_len
  obtain ⟨zs, hzs⟩ : ∃ zs, zs = Lb.zero.vs none 0 := ⟨_, rfl⟩
  have HBU : Hid (∀ w : World, (Instr.build 29 #[]).run Tryd.prog w = .ok (.agg zs.toArray) w) := by rw [hzs]; exact build_label0
  have HAL : Hid (∀ w : World, (Instr.alloc 29 true (.tuple #[])).run Tryd.prog w = .ok (.pointer (some ⟨w.heap.size, 0, none⟩)) (w.alloc (.cells zs.toArray 29))) := by rw [hzs]; exact alloc_label0
  have hzo : ∀ v ∈ zs, v.oneCell' = true := by rw [hzs]; exact Lb.vs_one _ _ _
  rw [← hzs] at hzl ⊢
  clear hzs hn
  go_enter Tryd.func14, Tryd.ntmps14
  go_wp2_with (first
    | (refine wpList_alloc0 (by rfl) 29 (by rfl) (some 2) (by rfl) _ HAL.out ?_; intro w1 hR1 hb1 hs1)
    | (refine wpList_build0 (by rfl) 29 (by rfl) _ HBU.out ?_)
    | (refine wpList_store_blk (by rfl) (.tmp 2) (.tmp 16) 29 (by rfl) _ 0 37 (by rfl) zs (by rfl) size_label hR1 hzl (by omega) hzo _ (whole_store hzl) ?_
       intro w2 hR2 hbut2 hs2))
  exact bodyPost_ret_blk2 rfl rfl (by rfl) (by rfl) agg_label size_label hR2 hzl ⟨rfl, hb1.trans (hbut2.below (Nat.le_refl _) hb1.size)⟩

set_option maxHeartbeats 20000000 in
theorem lrdec_sum (bb oo c : Nat) (xs : List Int) (w : World) (hl : xs.length = 256) (hB : Bs w (some ⟨bb, oo, none⟩) c xs) (hsm : sumL xs = false) :
    Calls Tryd.prog 14 #[.slice (some ⟨bb, oo, none⟩) 256 c] w fun e w' => e = .returned (.tuple #[.agg (Lb.zero.vs none 0).toArray, .int .i64 14]) ∧ Below w.heap.size w w' := by
  have hzl := zero_vs_len
  obtain ⟨zs, hzs⟩ : ∃ zs, zs = Lb.zero.vs none 0 := ⟨_, rfl⟩
  have HBU : Hid (∀ w : World, (Instr.build 29 #[]).run Tryd.prog w = .ok (.agg zs.toArray) w) := by rw [hzs]; exact build_label0
  have HAL : Hid (∀ w : World, (Instr.alloc 29 true (.tuple #[])).run Tryd.prog w = .ok (.pointer (some ⟨w.heap.size, 0, none⟩)) (w.alloc (.cells zs.toArray 29))) := by rw [hzs]; exact alloc_label0
  have hzo : ∀ v ∈ zs, v.oneCell' = true := by rw [hzs]; exact Lb.vs_one _ _ _
  have hcap := hB.cap
  rw [hl] at hcap
  have ht224 : (xs.take 224).length = 224 := by simp; omega
  have hd224 : (xs.drop 224).length = 32 := by simp; omega
  have hsl := sl256 hB hl
  have s1 := hsl.to224
  have s2 := hsl.from224
  have hBt : ∀ u, Bs u (some ⟨bb, oo, none⟩) c xs → Bs u (some ⟨bb, oo, none⟩) c (xs.take 224) := fun u hu => (hu.upto (P := Tryd.prog) 27 5 Tryd.underlying27 sizes5 Tryd.elem27 224 (by omega)).2
  have hBd : ∀ u, Bs u (some ⟨bb, oo, none⟩) c xs → Bs u (some ⟨bb, oo + 224, none⟩) (c - 224) (xs.drop 224) := fun u hu => by
    have := hu.mid 224 32 (by omega) (by omega)
    rwa [List.take_of_length_le (by omega)] at this
  have hsum : ∀ u, Bs u (some ⟨bb, oo, none⟩) c xs → Calls Tryd.prog 40 #[.slice (some ⟨bb, oo, none⟩) 224 c] u fun e w' => e = .returned (.agg ((shaOf (xs.take 224)).map (Value.int .u8)).toArray) ∧ Below u.heap.size u w' := fun u hu => by
    have := rsum_run _ _ _ u (hBt u hu) (by omega)
    rwa [ht224] at this
  obtain ⟨us, hus⟩ : ∃ us, us = (shaOf (xs.take 224)).map (Value.int .u8) := ⟨_, rfl⟩
  have hul : us.length = 32 := by rw [hus, List.length_map, shaOf_length]
  have huo : ∀ v ∈ us, v.oneCell' = true := by rw [hus]; exact int_oneCell _ _
  have HUS : Hid (us = (shaOf (xs.take 224)).map (Value.int .u8)) := hus
  rw [← hus] at hsum
  have h32 : ((List.replicate 32 (0 : Int)).map (Value.int .u8)).length = 32 := rfl
  rw [← hzs] at hzl ⊢
  clear hzs hus hBt
  go_enter Tryd.func14, Tryd.ntmps14
  go_wp2_with (first
    | (refine wpList_alloc0 (by rfl) 29 (by rfl) (some 2) (by rfl) _ HAL.out ?_; intro w1 hR1 hb1 hs1
       have hsum1 := hsum w1 (hB.stays hb1))
    | (go_at_call 40; go_must (refine hsum1.mono ?_); rintro e w2 ⟨rfl, hb2⟩
       have hR2 := hR1.stays hb2)
    | (refine wpList_alloc0 (by rfl) 23 (by rfl) (some 4) (by rfl) _ (fun w => alloc_32y w) ?_; intro w3 hS3 hb3 hs3
       have hR3 := hR2.stays hb3)
    | (refine wpList_store_blk (by rfl) (.tmp 4) (.tmp 19) 23 (by rfl) _ 0 32 (by rfl) us (by rfl) size_32 hS3 hul (by rw [h32]; omega) huo us (whole_store h32) ?_
       intro w4 hS4 hbut4 hs4
       have hR4 := hR3.but hbut4 (Nat.ne_of_lt hR2.lt)))
  have hb4 : Below w.heap.size w w4 := by
    have h1 := below_then (below_then hb1 hb2) hb3
    exact h1.trans (hbut4.below (B := w.heap.size) (by have := hb1.size; have := hb2.size; omega) h1.size)
  have HC1 : Hid (∀ u, Below w4.heap.size w4 u → (convert 27 9 (.slice (some ⟨w2.heap.size, 0, none⟩) 32 32)).run Tryd.prog u = .ok (.string (strOfNums (shaOf (xs.take 224)))) u) := fun u hu => by
    have h1 := hS4.stays hu
    rw [HUS.out] at h1
    exact (Row.bs (e := 23) (w := u) (g := w2.heap.size) (cur := shaOf (xs.take 224)) h1 (shaOf_rng _) (by rw [shaOf_length]; decide)).conv (P := Tryd.prog) 32 (shaOf_length _).symm 27 5 Tryd.underlying27 Tryd.underlying5 9 Tryd.underlying9
  have HC2 : Hid (∀ u, Below w4.heap.size w4 u → (convert 27 9 (.slice (some ⟨bb, oo + 224, none⟩) 32 (c - 224))).run Tryd.prog u = .ok (.string (strOfNums (xs.drop 224))) u) := fun u hu => by
    skip
    exact (hBd u (hB.stays (below_then hb4 hu))).conv (P := Tryd.prog) 32 hd224.symm 27 5 Tryd.underlying27 Tryd.underlying5 9 Tryd.underlying9
  have hsf : ((strOfNums (shaOf (xs.take 224))).toList == (strOfNums (xs.drop 224)).toList) = false := by rw [str_beq (shaOf_rng _) (rng_drop hB.rng 224)]; exact hsm
  clear hsum hsum1 hR1 hR2 hR3 hS3 hbut4 HUS hBd
  refine UpT.wp_region_tail 5 (UpT.tell []) (fun _ => false) (by kernel_rfl) (by kernel_rfl) (UpT.tell_steady _ (fun p hp => by cases hp)) ?_
  simp only [List.take_succ_cons, List.take_zero]
  apply UpT.wpUp_pure
  case hw => rfl
  case hψ => rfl
  case hv => (intro wz hp; clear hp; go_simp; try (with_reducible rfl))
  simp only [Act.put, List.setIfInBounds_toArray, List.set_cons_zero, List.set_cons_succ]
  apply UpT.wpUp_pure
  case hw => rfl
  case hψ => rfl
  case hv => (intro wz hp; have hcc := HC1.out wz hp.1; clear hp; go_simp; try (with_reducible rfl))
  simp only [Act.put, List.setIfInBounds_toArray, List.set_cons_zero, List.set_cons_succ]
  apply UpT.wpUp_pure
  case hw => rfl
  case hψ => rfl
  case hv => (intro wz hp; clear hp; go_simp; try (with_reducible rfl))
  simp only [Act.put, List.setIfInBounds_toArray, List.set_cons_zero, List.set_cons_succ]
  apply UpT.wpUp_pure
  case hw => rfl
  case hψ => rfl
  case hv => (intro wz hp; clear hp; go_simp; try (with_reducible rfl))
  simp only [Act.put, List.setIfInBounds_toArray, List.set_cons_zero, List.set_cons_succ]
  apply UpT.wpUp_pure
  case hw => rfl
  case hψ => rfl
  case hv => (intro wz hp; have hcc := HC2.out wz hp.1; clear hp; go_simp; try (with_reducible rfl))
  simp only [Act.put, List.setIfInBounds_toArray, List.set_cons_zero, List.set_cons_succ]
  refine UpT.wpUp_end ?_
  intro w5 hb5 hf
  clear hf
  simp only [List.drop_succ_cons, List.drop_zero]
  have hR5 := hR4.stays hb5
  have hb5' : Below w.heap.size w w5 := below_then hb4 hb5
  clear hR4 hS4 hb5 HC1 HC2
  go_wp2_with (first
    | (refine wpList_build0 (by rfl) 29 (by rfl) _ HBU.out ?_)
    | (refine wpList_store_blk (by rfl) (.tmp 2) (.tmp 26) 29 (by rfl) _ 0 37 (by rfl) zs (by rfl) size_label hR5 hzl (by omega) hzo _ (whole_store hzl) ?_
       intro wZ hRZ hbutZ hsZ))
  exact bodyPost_ret_blk2 rfl rfl (by rfl) (by rfl) agg_label size_label hRZ hzl ⟨rfl, hb5'.trans (hbutZ.below (Nat.le_refl _) hb5'.size)⟩

set_option maxHeartbeats 20000000 in
theorem lrdec_form1 (bb oo c : Nat) (xs : List Int) (w : World) (hl : xs.length = 256) (hB : Bs w (some ⟨bb, oo, none⟩) c xs) (hsm : sumL xs = true) (hmy : (decP ((xs.drop 8).take 44)).may = false) :
    Calls Tryd.prog 14 #[.slice (some ⟨bb, oo, none⟩) 256 c] w fun e w' => e = .returned (.tuple #[.agg (Lb.zero.vs none 0).toArray, .int .i64 3]) ∧ Below w.heap.size w w' := by
  have hzl := zero_vs_len
  obtain ⟨zs, hzs⟩ : ∃ zs, zs = Lb.zero.vs none 0 := ⟨_, rfl⟩
  have HBU : Hid (∀ w : World, (Instr.build 29 #[]).run Tryd.prog w = .ok (.agg zs.toArray) w) := by rw [hzs]; exact build_label0
  have HAL : Hid (∀ w : World, (Instr.alloc 29 true (.tuple #[])).run Tryd.prog w = .ok (.pointer (some ⟨w.heap.size, 0, none⟩)) (w.alloc (.cells zs.toArray 29))) := by rw [hzs]; exact alloc_label0
  have hzo : ∀ v ∈ zs, v.oneCell' = true := by rw [hzs]; exact Lb.vs_one _ _ _
  have hcap := hB.cap
  rw [hl] at hcap
  have ht224 : (xs.take 224).length = 224 := by simp; omega
  have hd224 : (xs.drop 224).length = 32 := by simp; omega
  have hsl := sl256 hB hl
  have s1 := hsl.to224
  have s2 := hsl.from224
  have hBt : ∀ u, Bs u (some ⟨bb, oo, none⟩) c xs → Bs u (some ⟨bb, oo, none⟩) c (xs.take 224) := fun u hu => (hu.upto (P := Tryd.prog) 27 5 Tryd.underlying27 sizes5 Tryd.elem27 224 (by omega)).2
  have hBd : ∀ u, Bs u (some ⟨bb, oo, none⟩) c xs → Bs u (some ⟨bb, oo + 224, none⟩) (c - 224) (xs.drop 224) := fun u hu => by
    have := hu.mid 224 32 (by omega) (by omega)
    rwa [List.take_of_length_le (by omega)] at this
  have hsum : ∀ u, Bs u (some ⟨bb, oo, none⟩) c xs → Calls Tryd.prog 40 #[.slice (some ⟨bb, oo, none⟩) 224 c] u fun e w' => e = .returned (.agg ((shaOf (xs.take 224)).map (Value.int .u8)).toArray) ∧ Below u.heap.size u w' := fun u hu => by
    have := rsum_run _ _ _ u (hBt u hu) (by omega)
    rwa [ht224] at this
  obtain ⟨us, hus⟩ : ∃ us, us = (shaOf (xs.take 224)).map (Value.int .u8) := ⟨_, rfl⟩
  have hul : us.length = 32 := by rw [hus, List.length_map, shaOf_length]
  have huo : ∀ v ∈ us, v.oneCell' = true := by rw [hus]; exact int_oneCell _ _
  have HUS : Hid (us = (shaOf (xs.take 224)).map (Value.int .u8)) := hus
  rw [← hus] at hsum
  have h32 : ((List.replicate 32 (0 : Int)).map (Value.int .u8)).length = 32 := rfl
  rw [← hzs] at hzl ⊢
  clear hzs hus hBt
  go_enter Tryd.func14, Tryd.ntmps14
  go_wp2_with (first
    | (refine wpList_alloc0 (by rfl) 29 (by rfl) (some 2) (by rfl) _ HAL.out ?_; intro w1 hR1 hb1 hs1
       have hsum1 := hsum w1 (hB.stays hb1))
    | (go_at_call 40; go_must (refine hsum1.mono ?_); rintro e w2 ⟨rfl, hb2⟩
       have hR2 := hR1.stays hb2)
    | (refine wpList_alloc0 (by rfl) 23 (by rfl) (some 4) (by rfl) _ (fun w => alloc_32y w) ?_; intro w3 hS3 hb3 hs3
       have hR3 := hR2.stays hb3)
    | (refine wpList_store_blk (by rfl) (.tmp 4) (.tmp 19) 23 (by rfl) _ 0 32 (by rfl) us (by rfl) size_32 hS3 hul (by rw [h32]; omega) huo us (whole_store h32) ?_
       intro w4 hS4 hbut4 hs4
       have hR4 := hR3.but hbut4 (Nat.ne_of_lt hR2.lt)))
  have hb4 : Below w.heap.size w w4 := by
    have h1 := below_then (below_then hb1 hb2) hb3
    exact h1.trans (hbut4.below (B := w.heap.size) (by have := hb1.size; have := hb2.size; omega) h1.size)
  have HC1 : Hid (∀ u, Below w4.heap.size w4 u → (convert 27 9 (.slice (some ⟨w2.heap.size, 0, none⟩) 32 32)).run Tryd.prog u = .ok (.string (strOfNums (shaOf (xs.take 224)))) u) := fun u hu => by
    have h1 := hS4.stays hu
    rw [HUS.out] at h1
    exact (Row.bs (e := 23) (w := u) (g := w2.heap.size) (cur := shaOf (xs.take 224)) h1 (shaOf_rng _) (by rw [shaOf_length]; decide)).conv (P := Tryd.prog) 32 (shaOf_length _).symm 27 5 Tryd.underlying27 Tryd.underlying5 9 Tryd.underlying9
  have HC2 : Hid (∀ u, Below w4.heap.size w4 u → (convert 27 9 (.slice (some ⟨bb, oo + 224, none⟩) 32 (c - 224))).run Tryd.prog u = .ok (.string (strOfNums (shaOf (xs.take 224)))) u) := fun u hu => by
    rw [of_decide_eq_true hsm]
    exact (hBd u (hB.stays (below_then hb4 hu))).conv (P := Tryd.prog) 32 hd224.symm 27 5 Tryd.underlying27 Tryd.underlying5 9 Tryd.underlying9
  clear hsum hsum1 hR1 hR2 hR3 hS3 hbut4 HUS hBd
  refine UpT.wp_region_tail 5 (UpT.tell []) (fun _ => false) (by kernel_rfl) (by kernel_rfl) (UpT.tell_steady _ (fun p hp => by cases hp)) ?_
  simp only [List.take_succ_cons, List.take_zero]
  apply UpT.wpUp_pure
  case hw => rfl
  case hψ => rfl
  case hv => (intro wz hp; clear hp; go_simp; try (with_reducible rfl))
  simp only [Act.put, List.setIfInBounds_toArray, List.set_cons_zero, List.set_cons_succ]
  apply UpT.wpUp_pure
  case hw => rfl
  case hψ => rfl
  case hv => (intro wz hp; have hcc := HC1.out wz hp.1; clear hp; go_simp; try (with_reducible rfl))
  simp only [Act.put, List.setIfInBounds_toArray, List.set_cons_zero, List.set_cons_succ]
  apply UpT.wpUp_pure
  case hw => rfl
  case hψ => rfl
  case hv => (intro wz hp; clear hp; go_simp; try (with_reducible rfl))
  simp only [Act.put, List.setIfInBounds_toArray, List.set_cons_zero, List.set_cons_succ]
  apply UpT.wpUp_pure
  case hw => rfl
  case hψ => rfl
  case hv => (intro wz hp; clear hp; go_simp; try (with_reducible rfl))
  simp only [Act.put, List.setIfInBounds_toArray, List.set_cons_zero, List.set_cons_succ]
  apply UpT.wpUp_pure
  case hw => rfl
  case hψ => rfl
  case hv => (intro wz hp; have hcc := HC2.out wz hp.1; clear hp; go_simp; try (with_reducible rfl))
  simp only [Act.put, List.setIfInBounds_toArray, List.set_cons_zero, List.set_cons_succ]
  refine UpT.wpUp_end ?_
  intro w5 hb5 hf
  clear hf
  simp only [List.drop_succ_cons, List.drop_zero]
  have hR5 := hR4.stays hb5
  have hb5' : Below w.heap.size w w5 := below_then hb4 hb5
  clear hR4 hS4 hb5 HC1 HC2
  have s3 := hsl.root
  have s6 := hsl.from4
  have s7 := hsl.map
  have hrl : ((xs.drop 8).take 44).length = 44 := by simp; omega
  have htl : (xs.drop 4).length = 252 := by simp; omega
  have hml : ((xs.drop 52).take 64).length = 64 := by simp; omega
  have hdec : ∀ u, Bs u (some ⟨bb, oo, none⟩) c xs → Calls Tryd.prog 47 #[.slice (some ⟨bb, oo + 8, none⟩) 44 (c - 8)] u fun e w' => e = .returned (.tuple #[.agg Pt.zero.vs.toArray, .int .i64 3]) ∧ Below u.heap.size u w' := fun u hu => by
    have h1 := rdecode_run (some ⟨bb, oo + 8, none⟩) (c - 8) 44 _ u hrl.symm (hu.mid 8 44 (by omega) (by omega)) (by omega)
    have h2 : decodeL ((xs.drop 8).take 44) = (Pt.zero, 3) := by
      unfold decodeL
      rw [if_neg (by omega), if_neg (by omega)]
      simp [hmy]
    rw [h2] at h1
    exact h1
  have hpok : Pt.zero.ok := Pt.zero_ok
  have hpmay : Pt.zero.may = true := Pt.zero_may
  obtain ⟨L, hL⟩ : ∃ L : Lb, L = ⟨n32 (xs.drop 4), Pt.zero, (xs.drop 52).take 64⟩ := ⟨_, rfl⟩
  have hLok : L.ok := by rw [hL]; exact ⟨(take32_int (rng_drop hB.rng 4)).2, hpok, rng_take (rng_drop hB.rng 52) 64⟩
  have hLm : L.m = (xs.drop 52).take 64 := by rw [hL]
  have hLmay : L.may = true := by rw [hL]; unfold Lb.may; simp only; rw [hpmay, hml]; rfl
  have hbl := build_label (n32 (xs.drop 4)) Pt.zero hpok (some ⟨bb, oo + 52, none⟩) 64 (c - 52)
  obtain ⟨ls, hls⟩ : ∃ ls, ls = L.vs (some ⟨bb, oo + 52, none⟩) (c - 52) := ⟨_, rfl⟩
  have hls' : Value.int .u32 (n32 (xs.drop 4) : Int) :: (Pt.zero.vs ++ [.slice (some ⟨bb, oo + 52, none⟩) 64 (c - 52)]) = ls := by
    rw [hls]; unfold Lb.vs; rw [hLm, hml, hL]
  have hlsl : ls.length = 37 := by rw [hls]; exact Lb.vs_len hLok.p _ _
  have hlso : ∀ v ∈ ls, v.oneCell' = true := by rw [hls]; exact Lb.vs_one _ _ _
  obtain ⟨ps, hps⟩ : ∃ ps, ps = Pt.zero.vs := ⟨_, rfl⟩
  have hpsl : ps.length = 35 := by rw [hps]; exact Pt.vs_len hpok
  have hpso : ∀ v ∈ ps, v.oneCell' = true := by rw [hps]; exact Pt.vs_one _
  rw [hls'] at hbl
  rw [← hps] at hdec hbl
  have hzp : Pt.zero.vs.length = 35 := Pt.vs_len Pt.zero_ok
  have hB5 : Bs w5 (some ⟨bb, oo, none⟩) c xs := hB.stays hb5'
  have htk := rtake32_nat (some ⟨bb, oo + 4, none⟩) (c - 4) 252 (xs.drop 4) w5 (by have := hB5.mid 4 252 (by omega) (by omega); rwa [List.take_of_length_le (by omega)] at this) htl.symm (by omega) (by omega)
  have henc : ∀ u, Below w5.heap.size w5 u → Calls Tryd.prog 10 #[.agg ls.toArray] u fun e w' => ∃ v, e = .returned (.tuple #[v, .int .i64 0]) ∧ w'.ownsRow u.heap.size 5 1 v 256 (L.bytes.map (Value.int .u8)) ∧ Below u.heap.size u w' := fun u hu => by
    rw [hls]
    exact lrencode_ok L hLok _ _ u (by rw [hLm]; exact (hB5.stays hu).mid 52 64 (by omega) (by omega)) hLmay
  have HL : Hid (L = ⟨n32 (xs.drop 4), Pt.zero, (xs.drop 52).take 64⟩) := hL
  have HLS : Hid (ls = L.vs (some ⟨bb, oo + 52, none⟩) (c - 52)) := hls
  have hLbl := Lb.bytes_len hLok.p (by rw [hLm]; exact hml)
  clear hps hls hls' hL hLm
  obtain ⟨T, hT⟩ : ∃ T, T = n32 (xs.drop 4) := ⟨_, rfl⟩
  rw [← hT] at htk hbl HL
  have HT : Hid (T = n32 (xs.drop 4)) := hT
  clear hT
  go_wp2_with (first
    | (go_at_call 46; go_must (refine htk.mono ?_); rintro e w6 ⟨a6, c6, rfl, hb6⟩
       have hR6 := hR5.stays hb6
       have hdec6 := hdec w6 (hB5.stays hb6))
    | (go_at_call 47; go_must (refine hdec6.mono ?_); rintro e w7 ⟨rfl, hb7⟩
       have hR7 := hR6.stays hb7)
    | (refine wpList_alloc0 (by rfl) 26 (by rfl) (some 8) (by rfl) Pt.zero.vs alloc_ptr0 ?_; intro w8 hP8 hb8 hs8
       have hR8 := hR7.stays hb8)
    | (refine wpList_store_blk (by rfl) (.tmp 8) (.tmp 38) 26 (by rfl) _ 0 35 (by rfl) ps (by rfl) size_ptr hP8 hpsl (by omega) hpso ps (whole_store hzp) ?_
       intro w9 hP9 hbut9 hs9
       have hR9 := hR8.but hbut9 (Nat.ne_of_lt hR7.lt)))
  have hb9 : Below w5.heap.size w5 w9 := by
    have h1 := below_then (below_then hb6 hb7) hb8
    exact h1.trans (hbut9.below (B := w5.heap.size) (by have := hb6.size; have := hb7.size; omega) h1.size)
  have hld : ∀ u, Below w9.heap.size w9 u → (Instr.loadAt 26 (.pointer (some ⟨w7.heap.size, 0, none⟩))).run Tryd.prog u = .ok (.agg ps.toArray) u := fun u hu => run_load_blk agg_ptr size_ptr (hP9.stays hu) (whole_load hpsl) hpsl
  clear hR5 hR6 hR7 hR8 hP8 hdec hdec6 htk hbut9
  refine UpT.wp_region_tail 6 (UpT.tell [(5, blkL w9.heap.size zs)]) (fun k => k == 5) (by kernel_rfl) (by kernel_rfl) (UpT.tell_steady _ (by
    intro p hp
    simp only [List.mem_cons, List.not_mem_nil, or_false] at hp
    rcases hp with rfl <;> first | exact isV_steady _ | exact slB_steady _ _ | exact blkL_steady _ _)) ?_
  simp only [List.take_succ_cons, List.take_zero]
  apply UpT.wpUp_pure
  case hw => rfl
  case hψ => rfl
  case hv => (intro wz hp; clear hp; go_simp; try (with_reducible rfl))
  simp only [Act.put, List.setIfInBounds_toArray, List.set_cons_zero, List.set_cons_succ]
  refine UpT.wpUp_pure (.agg ps.toArray) (by rfl) (by rfl) (fun wz hp => exec_load7 (by rfl) (by rfl) (hld wz hp.1)) ?_
  simp only [Act.put, List.setIfInBounds_toArray, List.set_cons_zero, List.set_cons_succ]
  apply UpT.wpUp_pure
  case hw => rfl
  case hψ => rfl
  case hv => (intro wz hp; clear hp; go_simp; try (with_reducible rfl))
  simp only [Act.put, List.setIfInBounds_toArray, List.set_cons_zero, List.set_cons_succ]
  apply UpT.wpUp_pure
  case hw => rfl
  case hψ => rfl
  case hv => (intro wz hp; clear hp; go_simp; try (with_reducible rfl))
  simp only [Act.put, List.setIfInBounds_toArray, List.set_cons_zero, List.set_cons_succ]
  refine UpT.wpUp_pure (.agg ls.toArray) (by rfl) (by rfl) (fun wz hp => exec_build7 [(0, .tmp 40), (1, .tmp 41), (2, .tmp 43)] (by rfl) _ (by rfl) (hbl wz)) ?_
  simp only [Act.put, List.setIfInBounds_toArray, List.set_cons_zero, List.set_cons_succ]
  refine UpT.wpUp_make (blkL w9.heap.size zs) (by rfl) (by rfl) (fun wz hp => ⟨.pointer (some ⟨wz.heap.size, 0, none⟩), wz.alloc (.cells zs.toArray 29), exec_alloc7 (by rfl) (HAL.out wz), (Below.refl _ _).alloc (Nat.le_refl _) _, ⟨_, rfl, hp.1.size, Blk.newAt rfl rfl⟩, fun _ => ⟨_, rfl, Nat.le_refl _, by simp⟩⟩) ?_
  rintro v ⟨u, _, hf⟩
  obtain ⟨g10, rfl, _, _⟩ := hf.of 5 v _ rfl rfl
  clear hf
  simp only [Act.put, List.setIfInBounds_toArray, List.set_cons_zero, List.set_cons_succ]
  refine UpT.wpUp_end ?_
  intro wA hbA hf
  obtain ⟨g10', h10e, hm10, hG⟩ := hf.of 5 _ _ rfl rfl
  cases h10e
  clear hf
  simp only [List.drop_succ_cons, List.drop_zero]
  refine wpList_store_blk (by rfl) (.tmp 10) (.tmp 44) 29 (by rfl) g10 0 37 (by rfl) ls (by rfl) size_label hG hlsl (by omega) hlso ls (whole_store hzl) ?_
  intro wB hGB hbutB hsB
  simp only [Act.put, List.setIfInBounds_toArray, List.set_cons_zero, List.set_cons_succ]
  have hRB := (hR9.stays hbA).but hbutB (by have := hR9.lt; omega)
  have hbB : Below w5.heap.size w5 wB := (below_then hb9 hbA).trans (hbutB.below (B := w5.heap.size) (by have := hb9.size; omega) (below_then hb9 hbA).size)
  have hencB := henc wB hbB
  clear hG hbutB hR9 hP9 hld henc
  go_wp2_with (first
    | (refine wpList_load_blk (by rfl) (.tmp 10) 29 (by rfl) _ 0 37 (by rfl) agg_label size_label hGB _ (whole_load hlsl) hlsl ?_)
    | (go_at_call 10; go_must (refine hencB.mono ?_); rintro e wC ⟨vC, rfl, hownC, hbC⟩
       obtain ⟨aC, cC, hCe, hBC⟩ := Bs.of_owns hownC (Lb.bytes_rng hLok)
       rw [hLbl] at hCe
       subst hCe
       have hRC := hRB.stays hbC
       have hGC := hGB.stays hbC
       have hbC' := below_then (below_then hb5' hbB) hbC
       have hv1 : (convert 27 9 (.slice aC 256 cC)).run Tryd.prog wC = .ok (.string (strOfNums L.bytes)) wC := hBC.conv (P := Tryd.prog) 256 hLbl.symm 27 5 Tryd.underlying27 Tryd.underlying5 9 Tryd.underlying9
       have hv2 : (convert 27 9 (.slice (some ⟨bb, oo, none⟩) 256 c)).run Tryd.prog wC = .ok (.string (strOfNums xs)) wC := by
         skip
         exact (hB.stays hbC').conv (P := Tryd.prog) 256 hl.symm 27 5 Tryd.underlying27 Tryd.underlying5 9 Tryd.underlying9)
    | (refine wpList_build0 (by rfl) 29 (by rfl) _ HBU.out ?_)
    | (refine wpList_store_blk (by rfl) (.tmp 2) (.tmp 59) 29 (by rfl) _ 0 37 (by rfl) zs (by rfl) size_label hRC hzl (by omega) hzo _ (whole_store hzl) ?_
       intro wZ hRZ hbutZ hsZ))
  exact bodyPost_ret_blk2 rfl rfl (by rfl) (by rfl) agg_label size_label hRZ hzl ⟨rfl, hbC'.trans (hbutZ.below (Nat.le_refl _) hbC'.size)⟩

set_option maxHeartbeats 20000000 in
theorem lrdec_form2 (bb oo c : Nat) (xs : List Int) (w : World) (hl : xs.length = 256) (hB : Bs w (some ⟨bb, oo, none⟩) c xs) (hsm : sumL xs = true) (hmy : (decP ((xs.drop 8).take 44)).may = true) (hno : ¬ (xs.take 4 = magicL ∧ (xs.drop 116).take 108 = List.replicate 108 0)) :
    Calls Tryd.prog 14 #[.slice (some ⟨bb, oo, none⟩) 256 c] w fun e w' => e = .returned (.tuple #[.agg (Lb.zero.vs none 0).toArray, .int .i64 3]) ∧ Below w.heap.size w w' := by
  have hzl := zero_vs_len
  obtain ⟨zs, hzs⟩ : ∃ zs, zs = Lb.zero.vs none 0 := ⟨_, rfl⟩
  have HBU : Hid (∀ w : World, (Instr.build 29 #[]).run Tryd.prog w = .ok (.agg zs.toArray) w) := by rw [hzs]; exact build_label0
  have HAL : Hid (∀ w : World, (Instr.alloc 29 true (.tuple #[])).run Tryd.prog w = .ok (.pointer (some ⟨w.heap.size, 0, none⟩)) (w.alloc (.cells zs.toArray 29))) := by rw [hzs]; exact alloc_label0
  have hzo : ∀ v ∈ zs, v.oneCell' = true := by rw [hzs]; exact Lb.vs_one _ _ _
  have hcap := hB.cap
  rw [hl] at hcap
  have ht224 : (xs.take 224).length = 224 := by simp; omega
  have hd224 : (xs.drop 224).length = 32 := by simp; omega
  have hsl := sl256 hB hl
  have s1 := hsl.to224
  have s2 := hsl.from224
  have hBt : ∀ u, Bs u (some ⟨bb, oo, none⟩) c xs → Bs u (some ⟨bb, oo, none⟩) c (xs.take 224) := fun u hu => (hu.upto (P := Tryd.prog) 27 5 Tryd.underlying27 sizes5 Tryd.elem27 224 (by omega)).2
  have hBd : ∀ u, Bs u (some ⟨bb, oo, none⟩) c xs → Bs u (some ⟨bb, oo + 224, none⟩) (c - 224) (xs.drop 224) := fun u hu => by
    have := hu.mid 224 32 (by omega) (by omega)
    rwa [List.take_of_length_le (by omega)] at this
  have hsum : ∀ u, Bs u (some ⟨bb, oo, none⟩) c xs → Calls Tryd.prog 40 #[.slice (some ⟨bb, oo, none⟩) 224 c] u fun e w' => e = .returned (.agg ((shaOf (xs.take 224)).map (Value.int .u8)).toArray) ∧ Below u.heap.size u w' := fun u hu => by
    have := rsum_run _ _ _ u (hBt u hu) (by omega)
    rwa [ht224] at this
  obtain ⟨us, hus⟩ : ∃ us, us = (shaOf (xs.take 224)).map (Value.int .u8) := ⟨_, rfl⟩
  have hul : us.length = 32 := by rw [hus, List.length_map, shaOf_length]
  have huo : ∀ v ∈ us, v.oneCell' = true := by rw [hus]; exact int_oneCell _ _
  have HUS : Hid (us = (shaOf (xs.take 224)).map (Value.int .u8)) := hus
  rw [← hus] at hsum
  have h32 : ((List.replicate 32 (0 : Int)).map (Value.int .u8)).length = 32 := rfl
  rw [← hzs] at hzl ⊢
  clear hzs hus hBt
  go_enter Tryd.func14, Tryd.ntmps14
  go_wp2_with (first
    | (refine wpList_alloc0 (by rfl) 29 (by rfl) (some 2) (by rfl) _ HAL.out ?_; intro w1 hR1 hb1 hs1
       have hsum1 := hsum w1 (hB.stays hb1))
    | (go_at_call 40; go_must (refine hsum1.mono ?_); rintro e w2 ⟨rfl, hb2⟩
       have hR2 := hR1.stays hb2)
    | (refine wpList_alloc0 (by rfl) 23 (by rfl) (some 4) (by rfl) _ (fun w => alloc_32y w) ?_; intro w3 hS3 hb3 hs3
       have hR3 := hR2.stays hb3)
    | (refine wpList_store_blk (by rfl) (.tmp 4) (.tmp 19) 23 (by rfl) _ 0 32 (by rfl) us (by rfl) size_32 hS3 hul (by rw [h32]; omega) huo us (whole_store h32) ?_
       intro w4 hS4 hbut4 hs4
       have hR4 := hR3.but hbut4 (Nat.ne_of_lt hR2.lt)))
  have hb4 : Below w.heap.size w w4 := by
    have h1 := below_then (below_then hb1 hb2) hb3
    exact h1.trans (hbut4.below (B := w.heap.size) (by have := hb1.size; have := hb2.size; omega) h1.size)
  have HC1 : Hid (∀ u, Below w4.heap.size w4 u → (convert 27 9 (.slice (some ⟨w2.heap.size, 0, none⟩) 32 32)).run Tryd.prog u = .ok (.string (strOfNums (shaOf (xs.take 224)))) u) := fun u hu => by
    have h1 := hS4.stays hu
    rw [HUS.out] at h1
    exact (Row.bs (e := 23) (w := u) (g := w2.heap.size) (cur := shaOf (xs.take 224)) h1 (shaOf_rng _) (by rw [shaOf_length]; decide)).conv (P := Tryd.prog) 32 (shaOf_length _).symm 27 5 Tryd.underlying27 Tryd.underlying5 9 Tryd.underlying9
  have HC2 : Hid (∀ u, Below w4.heap.size w4 u → (convert 27 9 (.slice (some ⟨bb, oo + 224, none⟩) 32 (c - 224))).run Tryd.prog u = .ok (.string (strOfNums (shaOf (xs.take 224)))) u) := fun u hu => by
    rw [of_decide_eq_true hsm]
    exact (hBd u (hB.stays (below_then hb4 hu))).conv (P := Tryd.prog) 32 hd224.symm 27 5 Tryd.underlying27 Tryd.underlying5 9 Tryd.underlying9
  clear hsum hsum1 hR1 hR2 hR3 hS3 hbut4 HUS hBd
  refine UpT.wp_region_tail 5 (UpT.tell []) (fun _ => false) (by kernel_rfl) (by kernel_rfl) (UpT.tell_steady _ (fun p hp => by cases hp)) ?_
  simp only [List.take_succ_cons, List.take_zero]
  apply UpT.wpUp_pure
  case hw => rfl
  case hψ => rfl
  case hv => (intro wz hp; clear hp; go_simp; try (with_reducible rfl))
  simp only [Act.put, List.setIfInBounds_toArray, List.set_cons_zero, List.set_cons_succ]
  apply UpT.wpUp_pure
  case hw => rfl
  case hψ => rfl
  case hv => (intro wz hp; have hcc := HC1.out wz hp.1; clear hp; go_simp; try (with_reducible rfl))
  simp only [Act.put, List.setIfInBounds_toArray, List.set_cons_zero, List.set_cons_succ]
  apply UpT.wpUp_pure
  case hw => rfl
  case hψ => rfl
  case hv => (intro wz hp; clear hp; go_simp; try (with_reducible rfl))
  simp only [Act.put, List.setIfInBounds_toArray, List.set_cons_zero, List.set_cons_succ]
  apply UpT.wpUp_pure
  case hw => rfl
  case hψ => rfl
  case hv => (intro wz hp; clear hp; go_simp; try (with_reducible rfl))
  simp only [Act.put, List.setIfInBounds_toArray, List.set_cons_zero, List.set_cons_succ]
  apply UpT.wpUp_pure
  case hw => rfl
  case hψ => rfl
  case hv => (intro wz hp; have hcc := HC2.out wz hp.1; clear hp; go_simp; try (with_reducible rfl))
  simp only [Act.put, List.setIfInBounds_toArray, List.set_cons_zero, List.set_cons_succ]
  refine UpT.wpUp_end ?_
  intro w5 hb5 hf
  clear hf
  simp only [List.drop_succ_cons, List.drop_zero]
  have hR5 := hR4.stays hb5
  have hb5' : Below w.heap.size w w5 := below_then hb4 hb5
  clear hR4 hS4 hb5 HC1 HC2
  have s3 := hsl.root
  have s6 := hsl.from4
  have s7 := hsl.map
  have hrl : ((xs.drop 8).take 44).length = 44 := by simp; omega
  have htl : (xs.drop 4).length = 252 := by simp; omega
  have hml : ((xs.drop 52).take 64).length = 64 := by simp; omega
  have hdec : ∀ u, Bs u (some ⟨bb, oo, none⟩) c xs → Calls Tryd.prog 47 #[.slice (some ⟨bb, oo + 8, none⟩) 44 (c - 8)] u fun e w' => e = .returned (.tuple #[.agg (decP ((xs.drop 8).take 44)).vs.toArray, .int .i64 0]) ∧ Below u.heap.size u w' := fun u hu => by
    have h1 := rdecode_run (some ⟨bb, oo + 8, none⟩) (c - 8) 44 _ u hrl.symm (hu.mid 8 44 (by omega) (by omega)) (by omega)
    have h2 : decodeL ((xs.drop 8).take 44) = ((decP ((xs.drop 8).take 44)), 0) := by
      unfold decodeL
      rw [if_neg (by omega), if_neg (by omega)]
      simp [hmy]
    rw [h2] at h1
    exact h1
  have hpok : (decP ((xs.drop 8).take 44)).ok := (decP_ok (rng_take (rng_drop hB.rng 8) 44) (by omega))
  have hpmay : (decP ((xs.drop 8).take 44)).may = true := hmy
  obtain ⟨L, hL⟩ : ∃ L : Lb, L = ⟨n32 (xs.drop 4), (decP ((xs.drop 8).take 44)), (xs.drop 52).take 64⟩ := ⟨_, rfl⟩
  have hLok : L.ok := by rw [hL]; exact ⟨(take32_int (rng_drop hB.rng 4)).2, hpok, rng_take (rng_drop hB.rng 52) 64⟩
  have hLm : L.m = (xs.drop 52).take 64 := by rw [hL]
  have hLmay : L.may = true := by rw [hL]; unfold Lb.may; simp only; rw [hpmay, hml]; rfl
  have hbl := build_label (n32 (xs.drop 4)) (decP ((xs.drop 8).take 44)) hpok (some ⟨bb, oo + 52, none⟩) 64 (c - 52)
  obtain ⟨ls, hls⟩ : ∃ ls, ls = L.vs (some ⟨bb, oo + 52, none⟩) (c - 52) := ⟨_, rfl⟩
  have hls' : Value.int .u32 (n32 (xs.drop 4) : Int) :: ((decP ((xs.drop 8).take 44)).vs ++ [.slice (some ⟨bb, oo + 52, none⟩) 64 (c - 52)]) = ls := by
    rw [hls]; unfold Lb.vs; rw [hLm, hml, hL]
  have hlsl : ls.length = 37 := by rw [hls]; exact Lb.vs_len hLok.p _ _
  have hlso : ∀ v ∈ ls, v.oneCell' = true := by rw [hls]; exact Lb.vs_one _ _ _
  obtain ⟨ps, hps⟩ : ∃ ps, ps = (decP ((xs.drop 8).take 44)).vs := ⟨_, rfl⟩
  have hpsl : ps.length = 35 := by rw [hps]; exact Pt.vs_len hpok
  have hpso : ∀ v ∈ ps, v.oneCell' = true := by rw [hps]; exact Pt.vs_one _
  rw [hls'] at hbl
  rw [← hps] at hdec hbl
  have hzp : Pt.zero.vs.length = 35 := Pt.vs_len Pt.zero_ok
  have hB5 : Bs w5 (some ⟨bb, oo, none⟩) c xs := hB.stays hb5'
  have htk := rtake32_nat (some ⟨bb, oo + 4, none⟩) (c - 4) 252 (xs.drop 4) w5 (by have := hB5.mid 4 252 (by omega) (by omega); rwa [List.take_of_length_le (by omega)] at this) htl.symm (by omega) (by omega)
  have henc : ∀ u, Below w5.heap.size w5 u → Calls Tryd.prog 10 #[.agg ls.toArray] u fun e w' => ∃ v, e = .returned (.tuple #[v, .int .i64 0]) ∧ w'.ownsRow u.heap.size 5 1 v 256 (L.bytes.map (Value.int .u8)) ∧ Below u.heap.size u w' := fun u hu => by
    rw [hls]
    exact lrencode_ok L hLok _ _ u (by rw [hLm]; exact (hB5.stays hu).mid 52 64 (by omega) (by omega)) hLmay
  have HL : Hid (L = ⟨n32 (xs.drop 4), (decP ((xs.drop 8).take 44)), (xs.drop 52).take 64⟩) := hL
  have HLS : Hid (ls = L.vs (some ⟨bb, oo + 52, none⟩) (c - 52)) := hls
  have hLbl := Lb.bytes_len hLok.p (by rw [hLm]; exact hml)
  clear hps hls hls' hL hLm
  obtain ⟨T, hT⟩ : ∃ T, T = n32 (xs.drop 4) := ⟨_, rfl⟩
  rw [← hT] at htk hbl HL
  have HT : Hid (T = n32 (xs.drop 4)) := hT
  clear hT
  go_wp2_with (first
    | (go_at_call 46; go_must (refine htk.mono ?_); rintro e w6 ⟨a6, c6, rfl, hb6⟩
       have hR6 := hR5.stays hb6
       have hdec6 := hdec w6 (hB5.stays hb6))
    | (go_at_call 47; go_must (refine hdec6.mono ?_); rintro e w7 ⟨rfl, hb7⟩
       have hR7 := hR6.stays hb7)
    | (refine wpList_alloc0 (by rfl) 26 (by rfl) (some 8) (by rfl) Pt.zero.vs alloc_ptr0 ?_; intro w8 hP8 hb8 hs8
       have hR8 := hR7.stays hb8)
    | (refine wpList_store_blk (by rfl) (.tmp 8) (.tmp 38) 26 (by rfl) _ 0 35 (by rfl) ps (by rfl) size_ptr hP8 hpsl (by omega) hpso ps (whole_store hzp) ?_
       intro w9 hP9 hbut9 hs9
       have hR9 := hR8.but hbut9 (Nat.ne_of_lt hR7.lt)))
  have hb9 : Below w5.heap.size w5 w9 := by
    have h1 := below_then (below_then hb6 hb7) hb8
    exact h1.trans (hbut9.below (B := w5.heap.size) (by have := hb6.size; have := hb7.size; omega) h1.size)
  have hld : ∀ u, Below w9.heap.size w9 u → (Instr.loadAt 26 (.pointer (some ⟨w7.heap.size, 0, none⟩))).run Tryd.prog u = .ok (.agg ps.toArray) u := fun u hu => run_load_blk agg_ptr size_ptr (hP9.stays hu) (whole_load hpsl) hpsl
  clear hR5 hR6 hR7 hR8 hP8 hdec hdec6 htk hbut9
  refine UpT.wp_region_tail 6 (UpT.tell [(5, blkL w9.heap.size zs)]) (fun k => k == 5) (by kernel_rfl) (by kernel_rfl) (UpT.tell_steady _ (by
    intro p hp
    simp only [List.mem_cons, List.not_mem_nil, or_false] at hp
    rcases hp with rfl <;> first | exact isV_steady _ | exact slB_steady _ _ | exact blkL_steady _ _)) ?_
  simp only [List.take_succ_cons, List.take_zero]
  apply UpT.wpUp_pure
  case hw => rfl
  case hψ => rfl
  case hv => (intro wz hp; clear hp; go_simp; try (with_reducible rfl))
  simp only [Act.put, List.setIfInBounds_toArray, List.set_cons_zero, List.set_cons_succ]
  refine UpT.wpUp_pure (.agg ps.toArray) (by rfl) (by rfl) (fun wz hp => exec_load7 (by rfl) (by rfl) (hld wz hp.1)) ?_
  simp only [Act.put, List.setIfInBounds_toArray, List.set_cons_zero, List.set_cons_succ]
  apply UpT.wpUp_pure
  case hw => rfl
  case hψ => rfl
  case hv => (intro wz hp; clear hp; go_simp; try (with_reducible rfl))
  simp only [Act.put, List.setIfInBounds_toArray, List.set_cons_zero, List.set_cons_succ]
  apply UpT.wpUp_pure
  case hw => rfl
  case hψ => rfl
  case hv => (intro wz hp; clear hp; go_simp; try (with_reducible rfl))
  simp only [Act.put, List.setIfInBounds_toArray, List.set_cons_zero, List.set_cons_succ]
  refine UpT.wpUp_pure (.agg ls.toArray) (by rfl) (by rfl) (fun wz hp => exec_build7 [(0, .tmp 40), (1, .tmp 41), (2, .tmp 43)] (by rfl) _ (by rfl) (hbl wz)) ?_
  simp only [Act.put, List.setIfInBounds_toArray, List.set_cons_zero, List.set_cons_succ]
  refine UpT.wpUp_make (blkL w9.heap.size zs) (by rfl) (by rfl) (fun wz hp => ⟨.pointer (some ⟨wz.heap.size, 0, none⟩), wz.alloc (.cells zs.toArray 29), exec_alloc7 (by rfl) (HAL.out wz), (Below.refl _ _).alloc (Nat.le_refl _) _, ⟨_, rfl, hp.1.size, Blk.newAt rfl rfl⟩, fun _ => ⟨_, rfl, Nat.le_refl _, by simp⟩⟩) ?_
  rintro v ⟨u, _, hf⟩
  obtain ⟨g10, rfl, _, _⟩ := hf.of 5 v _ rfl rfl
  clear hf
  simp only [Act.put, List.setIfInBounds_toArray, List.set_cons_zero, List.set_cons_succ]
  refine UpT.wpUp_end ?_
  intro wA hbA hf
  obtain ⟨g10', h10e, hm10, hG⟩ := hf.of 5 _ _ rfl rfl
  cases h10e
  clear hf
  simp only [List.drop_succ_cons, List.drop_zero]
  refine wpList_store_blk (by rfl) (.tmp 10) (.tmp 44) 29 (by rfl) g10 0 37 (by rfl) ls (by rfl) size_label hG hlsl (by omega) hlso ls (whole_store hzl) ?_
  intro wB hGB hbutB hsB
  simp only [Act.put, List.setIfInBounds_toArray, List.set_cons_zero, List.set_cons_succ]
  have hRB := (hR9.stays hbA).but hbutB (by have := hR9.lt; omega)
  have hbB : Below w5.heap.size w5 wB := (below_then hb9 hbA).trans (hbutB.below (B := w5.heap.size) (by have := hb9.size; omega) (below_then hb9 hbA).size)
  have hencB := henc wB hbB
  clear hG hbutB hR9 hP9 hld henc
  have hLx : L = lbOf xs := by rw [HL.out, HT.out]; unfold lbOf; rw [n32_take4 _ (by omega)]
  have hne : ((strOfNums L.bytes).toList == (strOfNums xs).toList) = false := by
    rw [str_beq (Lb.bytes_rng hLok) hB.rng, hLx]
    exact decide_eq_false (fun h => hno ((lbOf_bytes_iff hB.rng hl hsm).1 h))
  clear hLx
  go_wp2_with (first
    | (refine wpList_load_blk (by rfl) (.tmp 10) 29 (by rfl) _ 0 37 (by rfl) agg_label size_label hGB _ (whole_load hlsl) hlsl ?_)
    | (go_at_call 10; go_must (refine hencB.mono ?_); rintro e wC ⟨vC, rfl, hownC, hbC⟩
       obtain ⟨aC, cC, hCe, hBC⟩ := Bs.of_owns hownC (Lb.bytes_rng hLok)
       rw [hLbl] at hCe
       subst hCe
       have hRC := hRB.stays hbC
       have hGC := hGB.stays hbC
       have hbC' := below_then (below_then hb5' hbB) hbC
       have hv1 : (convert 27 9 (.slice aC 256 cC)).run Tryd.prog wC = .ok (.string (strOfNums L.bytes)) wC := hBC.conv (P := Tryd.prog) 256 hLbl.symm 27 5 Tryd.underlying27 Tryd.underlying5 9 Tryd.underlying9
       have hv2 : (convert 27 9 (.slice (some ⟨bb, oo, none⟩) 256 c)).run Tryd.prog wC = .ok (.string (strOfNums xs)) wC := by
         skip
         exact (hB.stays hbC').conv (P := Tryd.prog) 256 hl.symm 27 5 Tryd.underlying27 Tryd.underlying5 9 Tryd.underlying9)
    | (refine wpList_build0 (by rfl) 29 (by rfl) _ HBU.out ?_)
    | (refine wpList_store_blk (by rfl) (.tmp 2) (.tmp 59) 29 (by rfl) _ 0 37 (by rfl) zs (by rfl) size_label hRC hzl (by omega) hzo _ (whole_store hzl) ?_
       intro wZ hRZ hbutZ hsZ))
  exact bodyPost_ret_blk2 rfl rfl (by rfl) (by rfl) agg_label size_label hRZ hzl ⟨rfl, hbC'.trans (hbutZ.below (Nat.le_refl _) hbC'.size)⟩

set_option maxHeartbeats 20000000 in
theorem lrdec_ok (bb oo c : Nat) (xs : List Int) (w : World) (hl : xs.length = 256) (hB : Bs w (some ⟨bb, oo, none⟩) c xs) (hsm : sumL xs = true) (hmy : (decP ((xs.drop 8).take 44)).may = true) (hyes : xs.take 4 = magicL ∧ (xs.drop 116).take 108 = List.replicate 108 0) :
    Calls Tryd.prog 14 #[.slice (some ⟨bb, oo, none⟩) 256 c] w fun e w' => (e = .returned (.tuple #[.agg ((lbOf xs).vs (some ⟨bb, oo + 52, none⟩) (c - 52)).toArray, .int .i64 0]) ∧ Bs w' (some ⟨bb, oo + 52, none⟩) (c - 52) (lbOf xs).m) ∧ Below w.heap.size w w' := by
  have hzl := zero_vs_len
  obtain ⟨zs, hzs⟩ : ∃ zs, zs = Lb.zero.vs none 0 := ⟨_, rfl⟩
  have HBU : Hid (∀ w : World, (Instr.build 29 #[]).run Tryd.prog w = .ok (.agg zs.toArray) w) := by rw [hzs]; exact build_label0
  have HAL : Hid (∀ w : World, (Instr.alloc 29 true (.tuple #[])).run Tryd.prog w = .ok (.pointer (some ⟨w.heap.size, 0, none⟩)) (w.alloc (.cells zs.toArray 29))) := by rw [hzs]; exact alloc_label0
  have hzo : ∀ v ∈ zs, v.oneCell' = true := by rw [hzs]; exact Lb.vs_one _ _ _
  have hcap := hB.cap
  rw [hl] at hcap
  have ht224 : (xs.take 224).length = 224 := by simp; omega
  have hd224 : (xs.drop 224).length = 32 := by simp; omega
  have hsl := sl256 hB hl
  have s1 := hsl.to224
  have s2 := hsl.from224
  have hBt : ∀ u, Bs u (some ⟨bb, oo, none⟩) c xs → Bs u (some ⟨bb, oo, none⟩) c (xs.take 224) := fun u hu => (hu.upto (P := Tryd.prog) 27 5 Tryd.underlying27 sizes5 Tryd.elem27 224 (by omega)).2
  have hBd : ∀ u, Bs u (some ⟨bb, oo, none⟩) c xs → Bs u (some ⟨bb, oo + 224, none⟩) (c - 224) (xs.drop 224) := fun u hu => by
    have := hu.mid 224 32 (by omega) (by omega)
    rwa [List.take_of_length_le (by omega)] at this
  have hsum : ∀ u, Bs u (some ⟨bb, oo, none⟩) c xs → Calls Tryd.prog 40 #[.slice (some ⟨bb, oo, none⟩) 224 c] u fun e w' => e = .returned (.agg ((shaOf (xs.take 224)).map (Value.int .u8)).toArray) ∧ Below u.heap.size u w' := fun u hu => by
    have := rsum_run _ _ _ u (hBt u hu) (by omega)
    rwa [ht224] at this
  obtain ⟨us, hus⟩ : ∃ us, us = (shaOf (xs.take 224)).map (Value.int .u8) := ⟨_, rfl⟩
  have hul : us.length = 32 := by rw [hus, List.length_map, shaOf_length]
  have huo : ∀ v ∈ us, v.oneCell' = true := by rw [hus]; exact int_oneCell _ _
  have HUS : Hid (us = (shaOf (xs.take 224)).map (Value.int .u8)) := hus
  rw [← hus] at hsum
  have h32 : ((List.replicate 32 (0 : Int)).map (Value.int .u8)).length = 32 := rfl
  rw [← hzs] at hzl
  clear hzs hus hBt
  go_enter Tryd.func14, Tryd.ntmps14
  go_wp2_with (first
    | (refine wpList_alloc0 (by rfl) 29 (by rfl) (some 2) (by rfl) _ HAL.out ?_; intro w1 hR1 hb1 hs1
       have hsum1 := hsum w1 (hB.stays hb1))
    | (go_at_call 40; go_must (refine hsum1.mono ?_); rintro e w2 ⟨rfl, hb2⟩
       have hR2 := hR1.stays hb2)
    | (refine wpList_alloc0 (by rfl) 23 (by rfl) (some 4) (by rfl) _ (fun w => alloc_32y w) ?_; intro w3 hS3 hb3 hs3
       have hR3 := hR2.stays hb3)
    | (refine wpList_store_blk (by rfl) (.tmp 4) (.tmp 19) 23 (by rfl) _ 0 32 (by rfl) us (by rfl) size_32 hS3 hul (by rw [h32]; omega) huo us (whole_store h32) ?_
       intro w4 hS4 hbut4 hs4
       have hR4 := hR3.but hbut4 (Nat.ne_of_lt hR2.lt)))
  have hb4 : Below w.heap.size w w4 := by
    have h1 := below_then (below_then hb1 hb2) hb3
    exact h1.trans (hbut4.below (B := w.heap.size) (by have := hb1.size; have := hb2.size; omega) h1.size)
  have HC1 : Hid (∀ u, Below w4.heap.size w4 u → (convert 27 9 (.slice (some ⟨w2.heap.size, 0, none⟩) 32 32)).run Tryd.prog u = .ok (.string (strOfNums (shaOf (xs.take 224)))) u) := fun u hu => by
    have h1 := hS4.stays hu
    rw [HUS.out] at h1
    exact (Row.bs (e := 23) (w := u) (g := w2.heap.size) (cur := shaOf (xs.take 224)) h1 (shaOf_rng _) (by rw [shaOf_length]; decide)).conv (P := Tryd.prog) 32 (shaOf_length _).symm 27 5 Tryd.underlying27 Tryd.underlying5 9 Tryd.underlying9
  have HC2 : Hid (∀ u, Below w4.heap.size w4 u → (convert 27 9 (.slice (some ⟨bb, oo + 224, none⟩) 32 (c - 224))).run Tryd.prog u = .ok (.string (strOfNums (shaOf (xs.take 224)))) u) := fun u hu => by
    rw [of_decide_eq_true hsm]
    exact (hBd u (hB.stays (below_then hb4 hu))).conv (P := Tryd.prog) 32 hd224.symm 27 5 Tryd.underlying27 Tryd.underlying5 9 Tryd.underlying9
  clear hsum hsum1 hR1 hR2 hR3 hS3 hbut4 HUS hBd
  refine UpT.wp_region_tail 5 (UpT.tell []) (fun _ => false) (by kernel_rfl) (by kernel_rfl) (UpT.tell_steady _ (fun p hp => by cases hp)) ?_
  simp only [List.take_succ_cons, List.take_zero]
  apply UpT.wpUp_pure
  case hw => rfl
  case hψ => rfl
  case hv => (intro wz hp; clear hp; go_simp; try (with_reducible rfl))
  simp only [Act.put, List.setIfInBounds_toArray, List.set_cons_zero, List.set_cons_succ]
  apply UpT.wpUp_pure
  case hw => rfl
  case hψ => rfl
  case hv => (intro wz hp; have hcc := HC1.out wz hp.1; clear hp; go_simp; try (with_reducible rfl))
  simp only [Act.put, List.setIfInBounds_toArray, List.set_cons_zero, List.set_cons_succ]
  apply UpT.wpUp_pure
  case hw => rfl
  case hψ => rfl
  case hv => (intro wz hp; clear hp; go_simp; try (with_reducible rfl))
  simp only [Act.put, List.setIfInBounds_toArray, List.set_cons_zero, List.set_cons_succ]
  apply UpT.wpUp_pure
  case hw => rfl
  case hψ => rfl
  case hv => (intro wz hp; clear hp; go_simp; try (with_reducible rfl))
  simp only [Act.put, List.setIfInBounds_toArray, List.set_cons_zero, List.set_cons_succ]
  apply UpT.wpUp_pure
  case hw => rfl
  case hψ => rfl
  case hv => (intro wz hp; have hcc := HC2.out wz hp.1; clear hp; go_simp; try (with_reducible rfl))
  simp only [Act.put, List.setIfInBounds_toArray, List.set_cons_zero, List.set_cons_succ]
  refine UpT.wpUp_end ?_
  intro w5 hb5 hf
  clear hf
  simp only [List.drop_succ_cons, List.drop_zero]
  have hR5 := hR4.stays hb5
  have hb5' : Below w.heap.size w w5 := below_then hb4 hb5
  clear hR4 hS4 hb5 HC1 HC2
  have s3 := hsl.root
  have s6 := hsl.from4
  have s7 := hsl.map
  have hrl : ((xs.drop 8).take 44).length = 44 := by simp; omega
  have htl : (xs.drop 4).length = 252 := by simp; omega
  have hml : ((xs.drop 52).take 64).length = 64 := by simp; omega
  have hdec : ∀ u, Bs u (some ⟨bb, oo, none⟩) c xs → Calls Tryd.prog 47 #[.slice (some ⟨bb, oo + 8, none⟩) 44 (c - 8)] u fun e w' => e = .returned (.tuple #[.agg (decP ((xs.drop 8).take 44)).vs.toArray, .int .i64 0]) ∧ Below u.heap.size u w' := fun u hu => by
    have h1 := rdecode_run (some ⟨bb, oo + 8, none⟩) (c - 8) 44 _ u hrl.symm (hu.mid 8 44 (by omega) (by omega)) (by omega)
    have h2 : decodeL ((xs.drop 8).take 44) = ((decP ((xs.drop 8).take 44)), 0) := by
      unfold decodeL
      rw [if_neg (by omega), if_neg (by omega)]
      simp [hmy]
    rw [h2] at h1
    exact h1
  have hpok : (decP ((xs.drop 8).take 44)).ok := (decP_ok (rng_take (rng_drop hB.rng 8) 44) (by omega))
  have hpmay : (decP ((xs.drop 8).take 44)).may = true := hmy
  obtain ⟨L, hL⟩ : ∃ L : Lb, L = ⟨n32 (xs.drop 4), (decP ((xs.drop 8).take 44)), (xs.drop 52).take 64⟩ := ⟨_, rfl⟩
  have hLok : L.ok := by rw [hL]; exact ⟨(take32_int (rng_drop hB.rng 4)).2, hpok, rng_take (rng_drop hB.rng 52) 64⟩
  have hLm : L.m = (xs.drop 52).take 64 := by rw [hL]
  have hLmay : L.may = true := by rw [hL]; unfold Lb.may; simp only; rw [hpmay, hml]; rfl
  have hbl := build_label (n32 (xs.drop 4)) (decP ((xs.drop 8).take 44)) hpok (some ⟨bb, oo + 52, none⟩) 64 (c - 52)
  obtain ⟨ls, hls⟩ : ∃ ls, ls = L.vs (some ⟨bb, oo + 52, none⟩) (c - 52) := ⟨_, rfl⟩
  have hls' : Value.int .u32 (n32 (xs.drop 4) : Int) :: ((decP ((xs.drop 8).take 44)).vs ++ [.slice (some ⟨bb, oo + 52, none⟩) 64 (c - 52)]) = ls := by
    rw [hls]; unfold Lb.vs; rw [hLm, hml, hL]
  have hlsl : ls.length = 37 := by rw [hls]; exact Lb.vs_len hLok.p _ _
  have hlso : ∀ v ∈ ls, v.oneCell' = true := by rw [hls]; exact Lb.vs_one _ _ _
  obtain ⟨ps, hps⟩ : ∃ ps, ps = (decP ((xs.drop 8).take 44)).vs := ⟨_, rfl⟩
  have hpsl : ps.length = 35 := by rw [hps]; exact Pt.vs_len hpok
  have hpso : ∀ v ∈ ps, v.oneCell' = true := by rw [hps]; exact Pt.vs_one _
  rw [hls'] at hbl
  rw [← hps] at hdec hbl
  have hzp : Pt.zero.vs.length = 35 := Pt.vs_len Pt.zero_ok
  have hB5 : Bs w5 (some ⟨bb, oo, none⟩) c xs := hB.stays hb5'
  have htk := rtake32_nat (some ⟨bb, oo + 4, none⟩) (c - 4) 252 (xs.drop 4) w5 (by have := hB5.mid 4 252 (by omega) (by omega); rwa [List.take_of_length_le (by omega)] at this) htl.symm (by omega) (by omega)
  have henc : ∀ u, Below w5.heap.size w5 u → Calls Tryd.prog 10 #[.agg ls.toArray] u fun e w' => ∃ v, e = .returned (.tuple #[v, .int .i64 0]) ∧ w'.ownsRow u.heap.size 5 1 v 256 (L.bytes.map (Value.int .u8)) ∧ Below u.heap.size u w' := fun u hu => by
    rw [hls]
    exact lrencode_ok L hLok _ _ u (by rw [hLm]; exact (hB5.stays hu).mid 52 64 (by omega) (by omega)) hLmay
  have HL : Hid (L = ⟨n32 (xs.drop 4), (decP ((xs.drop 8).take 44)), (xs.drop 52).take 64⟩) := hL
  have HLS : Hid (ls = L.vs (some ⟨bb, oo + 52, none⟩) (c - 52)) := hls
  have hLbl := Lb.bytes_len hLok.p (by rw [hLm]; exact hml)
  clear hps hls hls' hL hLm
  obtain ⟨T, hT⟩ : ∃ T, T = n32 (xs.drop 4) := ⟨_, rfl⟩
  rw [← hT] at htk hbl HL
  have HT : Hid (T = n32 (xs.drop 4)) := hT
  clear hT
  go_wp2_with (first
    | (go_at_call 46; go_must (refine htk.mono ?_); rintro e w6 ⟨a6, c6, rfl, hb6⟩
       have hR6 := hR5.stays hb6
       have hdec6 := hdec w6 (hB5.stays hb6))
    | (go_at_call 47; go_must (refine hdec6.mono ?_); rintro e w7 ⟨rfl, hb7⟩
       have hR7 := hR6.stays hb7)
    | (refine wpList_alloc0 (by rfl) 26 (by rfl) (some 8) (by rfl) Pt.zero.vs alloc_ptr0 ?_; intro w8 hP8 hb8 hs8
       have hR8 := hR7.stays hb8)
    | (refine wpList_store_blk (by rfl) (.tmp 8) (.tmp 38) 26 (by rfl) _ 0 35 (by rfl) ps (by rfl) size_ptr hP8 hpsl (by omega) hpso ps (whole_store hzp) ?_
       intro w9 hP9 hbut9 hs9
       have hR9 := hR8.but hbut9 (Nat.ne_of_lt hR7.lt)))
  have hb9 : Below w5.heap.size w5 w9 := by
    have h1 := below_then (below_then hb6 hb7) hb8
    exact h1.trans (hbut9.below (B := w5.heap.size) (by have := hb6.size; have := hb7.size; omega) h1.size)
  have hld : ∀ u, Below w9.heap.size w9 u → (Instr.loadAt 26 (.pointer (some ⟨w7.heap.size, 0, none⟩))).run Tryd.prog u = .ok (.agg ps.toArray) u := fun u hu => run_load_blk agg_ptr size_ptr (hP9.stays hu) (whole_load hpsl) hpsl
  clear hR5 hR6 hR7 hR8 hP8 hdec hdec6 htk hbut9
  refine UpT.wp_region_tail 6 (UpT.tell [(5, blkL w9.heap.size zs)]) (fun k => k == 5) (by kernel_rfl) (by kernel_rfl) (UpT.tell_steady _ (by
    intro p hp
    simp only [List.mem_cons, List.not_mem_nil, or_false] at hp
    rcases hp with rfl <;> first | exact isV_steady _ | exact slB_steady _ _ | exact blkL_steady _ _)) ?_
  simp only [List.take_succ_cons, List.take_zero]
  apply UpT.wpUp_pure
  case hw => rfl
  case hψ => rfl
  case hv => (intro wz hp; clear hp; go_simp; try (with_reducible rfl))
  simp only [Act.put, List.setIfInBounds_toArray, List.set_cons_zero, List.set_cons_succ]
  refine UpT.wpUp_pure (.agg ps.toArray) (by rfl) (by rfl) (fun wz hp => exec_load7 (by rfl) (by rfl) (hld wz hp.1)) ?_
  simp only [Act.put, List.setIfInBounds_toArray, List.set_cons_zero, List.set_cons_succ]
  apply UpT.wpUp_pure
  case hw => rfl
  case hψ => rfl
  case hv => (intro wz hp; clear hp; go_simp; try (with_reducible rfl))
  simp only [Act.put, List.setIfInBounds_toArray, List.set_cons_zero, List.set_cons_succ]
  apply UpT.wpUp_pure
  case hw => rfl
  case hψ => rfl
  case hv => (intro wz hp; clear hp; go_simp; try (with_reducible rfl))
  simp only [Act.put, List.setIfInBounds_toArray, List.set_cons_zero, List.set_cons_succ]
  refine UpT.wpUp_pure (.agg ls.toArray) (by rfl) (by rfl) (fun wz hp => exec_build7 [(0, .tmp 40), (1, .tmp 41), (2, .tmp 43)] (by rfl) _ (by rfl) (hbl wz)) ?_
  simp only [Act.put, List.setIfInBounds_toArray, List.set_cons_zero, List.set_cons_succ]
  refine UpT.wpUp_make (blkL w9.heap.size zs) (by rfl) (by rfl) (fun wz hp => ⟨.pointer (some ⟨wz.heap.size, 0, none⟩), wz.alloc (.cells zs.toArray 29), exec_alloc7 (by rfl) (HAL.out wz), (Below.refl _ _).alloc (Nat.le_refl _) _, ⟨_, rfl, hp.1.size, Blk.newAt rfl rfl⟩, fun _ => ⟨_, rfl, Nat.le_refl _, by simp⟩⟩) ?_
  rintro v ⟨u, _, hf⟩
  obtain ⟨g10, rfl, _, _⟩ := hf.of 5 v _ rfl rfl
  clear hf
  simp only [Act.put, List.setIfInBounds_toArray, List.set_cons_zero, List.set_cons_succ]
  refine UpT.wpUp_end ?_
  intro wA hbA hf
  obtain ⟨g10', h10e, hm10, hG⟩ := hf.of 5 _ _ rfl rfl
  cases h10e
  clear hf
  simp only [List.drop_succ_cons, List.drop_zero]
  refine wpList_store_blk (by rfl) (.tmp 10) (.tmp 44) 29 (by rfl) g10 0 37 (by rfl) ls (by rfl) size_label hG hlsl (by omega) hlso ls (whole_store hzl) ?_
  intro wB hGB hbutB hsB
  simp only [Act.put, List.setIfInBounds_toArray, List.set_cons_zero, List.set_cons_succ]
  have hRB := (hR9.stays hbA).but hbutB (by have := hR9.lt; omega)
  have hbB : Below w5.heap.size w5 wB := (below_then hb9 hbA).trans (hbutB.below (B := w5.heap.size) (by have := hb9.size; omega) (below_then hb9 hbA).size)
  have hencB := henc wB hbB
  clear hG hbutB hR9 hP9 hld henc
  have hLx : L = lbOf xs := by rw [HL.out, HT.out]; unfold lbOf; rw [n32_take4 _ (by omega)]
  have hsame : xs = L.bytes := by rw [hLx]; exact ((lbOf_bytes_iff hB.rng hl hsm).2 hyes).symm
  have HLX : Hid (L = lbOf xs) := hLx
  have HSAME : Hid (xs = L.bytes) := hsame
  clear hLx hsame
  go_wp2_with (first
    | (refine wpList_load_blk (by rfl) (.tmp 10) 29 (by rfl) _ 0 37 (by rfl) agg_label size_label hGB _ (whole_load hlsl) hlsl ?_)
    | (go_at_call 10; go_must (refine hencB.mono ?_); rintro e wC ⟨vC, rfl, hownC, hbC⟩
       obtain ⟨aC, cC, hCe, hBC⟩ := Bs.of_owns hownC (Lb.bytes_rng hLok)
       rw [hLbl] at hCe
       subst hCe
       have hRC := hRB.stays hbC
       have hGC := hGB.stays hbC
       have hbC' := below_then (below_then hb5' hbB) hbC
       have hv1 : (convert 27 9 (.slice aC 256 cC)).run Tryd.prog wC = .ok (.string (strOfNums L.bytes)) wC := hBC.conv (P := Tryd.prog) 256 hLbl.symm 27 5 Tryd.underlying27 Tryd.underlying5 9 Tryd.underlying9
       have hv2 : (convert 27 9 (.slice (some ⟨bb, oo, none⟩) 256 c)).run Tryd.prog wC = .ok (.string (strOfNums L.bytes)) wC := by
         rw [← HSAME.out]
         exact (hB.stays hbC').conv (P := Tryd.prog) 256 hl.symm 27 5 Tryd.underlying27 Tryd.underlying5 9 Tryd.underlying9)
    | (refine wpList_load_blk (by rfl) (.tmp 10) 29 (by rfl) _ 0 37 (by rfl) agg_label size_label hGC _ (whole_load hlsl) hlsl ?_)
    | (refine wpList_store_blk (by rfl) (.tmp 2) (.tmp 60) 29 (by rfl) _ 0 37 (by rfl) ls (by rfl) size_label hRC hlsl (by omega) hlso ls (whole_store hzl) ?_
       intro wZ hRZ hbutZ hsZ))
  have hbZ : Below w.heap.size w wZ := hbC'.trans (hbutZ.below (Nat.le_refl _) hbC'.size)
  refine bodyPost_ret_blk2 rfl rfl (by rfl) (by rfl) agg_label size_label hRZ hlsl ⟨⟨?_, ?_⟩, hbZ⟩
  · rw [HLS.out, HLX.out]; rfl
  · exact (hB.stays hbZ).mid 52 64 (by omega) (by omega)

end Go.Proofs.YthbcphalokoknaaDoor
