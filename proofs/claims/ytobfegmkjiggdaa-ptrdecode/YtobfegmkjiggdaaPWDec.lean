/-
  PtrDecode: the pointer, and the node, of any bytes, or why there is none, beside the document's: the statement's walk.
-/
import Derived.Test.YtobfegmkjiggdaaPRRead
namespace Go.Proofs.Ytobfegmkjiggdaa
set_option linter.unusedSimpArgs false
set_option linter.unusedVariables false
open Go.RowKit

theorem readL_ok {xs : List Int} (hr : ∀ x ∈ xs, 0 ≤ x ∧ x ≤ 255) : (∀ p ∈ (readL xs).1, p.ok) ∧ (readL xs).1.length = 4 := by
  rcases readL_only hr with ⟨_, h1, h2, _⟩ | ⟨_, h1⟩
  · rw [h1]; exact ⟨pieces_ok h2 hr, rfl⟩
  · rw [h1]; exact ⟨zeros4_ok, rfl⟩

set_option maxHeartbeats 3000000 in
set_option maxRecDepth 100000 in
theorem declaw_walk (a : Option Addr) (c : Nat) (xs : List Int) (w : World) (hB : Bs w a c xs) :
    Calls Try.prog 4 #[.slice a xs.length c] w fun e w' => e = .returned (.bool true) ∧ Below w.heap.size w w' := by
  have HAV : Hid (∀ u, Calls Try.prog 9 #[] u fun e w' => e = .returned (.bool true) ∧ Below u.heap.size u w') := alive_run
  by_cases hbig : 300 < xs.length
  · have hbig' : (300 : Int) < (xs.length : Int) := by omega
    clear hB
    go_enter Try.func4, Try.ntmps4
    go_wp2_with (go_at_call 9; go_must (refine (HAV.out _).mono ?_); rintro e w1 ⟨rfl, hb1⟩)
    go_ret
    exact ⟨rfl, hb1⟩
  · have hsm : ¬ ((300 : Int) < (xs.length : Int)) := by omega
    obtain ⟨i0, hi, hz0, hz1', hz2⟩ := info_parts Try.info5
    have hrng := hB.rng
    have hpz : Pt.zero.vs.length = 35 := Pt.vs_len Pt.zero_ok
    obtain ⟨p, hp⟩ : ∃ p, p = (decodeL xs).1 := ⟨_, rfl⟩
    obtain ⟨e, he⟩ : ∃ e, e = (decodeL xs).2 := ⟨_, rfl⟩
    have hok : p.ok := hp ▸ decodeL_ok hrng
    have hvl := Pt.vs_len hok
    obtain ⟨hlo, hl4⟩ := readL_ok hrng
    obtain ⟨l, hl⟩ : ∃ l, l = (readL xs).1 := ⟨_, rfl⟩
    obtain ⟨f, hf⟩ : ∃ f, f = (readL xs).2 := ⟨_, rfl⟩
    rw [← hl] at hlo hl4
    have hfl : (fourV l).length = 140 := by rw [fourV_len hlo, hl4]
    have hf1 : ∀ v ∈ fourV l, v.oneCell' = true := fourV_one _
    have heq4 : ∀ u, (Op.equalIn 10000 36 (.agg (fourV l).toArray) (.agg (fourV l).toArray)).run Try.prog u = .ok true u := fun u => by
      rw [equal_four hlo hlo hl4 hl4 9996 u, (sameAll_iff rfl).2 rfl]
    have heq1 : ∀ u, (Op.equalIn 10000 26 (.agg p.vs.toArray) (.agg p.vs.toArray)).run Try.prog u = .ok true u := fun u => by rw [equal_ptr hok hok 9997 u, Pt.same_self]
    obtain ⟨fv, hfv⟩ : ∃ fv, fv = fourV l := ⟨_, rfl⟩
    obtain ⟨N, hN⟩ : ∃ N, N = xs.length := ⟨_, rfl⟩
    have HD1 : Hid (∀ a c u, Bs u a c xs → Calls Try.prog 17 #[.slice a N c] u fun e' w' => e' = .returned (.tuple #[.agg p.vs.toArray, .int .i64 (e : Int)]) ∧ Below u.heap.size u w') := fun a c u hu => by rw [hp, he]; exact decode_run a c N xs u hN hu
    have HD2 : Hid (∀ a c u, Bs u a c xs → Calls Try.prog 18 #[.slice a N c] u fun e' w' => e' = .returned (.tuple #[.agg p.vs.toArray, .int .i64 (e : Int)]) ∧ Below u.heap.size u w') := fun a c u hu => by rw [hp, he]; exact rdecode_run a c N xs u hN hu (by omega)
    have HR1 : Hid (∀ a c u, Bs u a c xs → Calls Try.prog 19 #[.slice a N c] u fun e' w' => e' = .returned (.tuple #[.agg fv.toArray, .int .i64 (f : Int)]) ∧ Below u.heap.size u w') := fun a c u hu => by rw [hfv, hl, hf]; exact read_run a c N xs u hN hu
    have HR2 : Hid (∀ a c u, Bs u a c xs → Calls Try.prog 20 #[.slice a N c] u fun e' w' => e' = .returned (.tuple #[.agg fv.toArray, .int .i64 (f : Int)]) ∧ Below u.heap.size u w') := fun a c u hu => by rw [hfv, hl, hf]; exact rread_run a c N xs u hN hu
    obtain ⟨Z, hZ⟩ : ∃ Z, Z = strOfNums xs := ⟨_, rfl⟩
    have HCV : Hid (∀ a c u, Bs u a c xs → (convert 30 9 (.slice a N c)).run Try.prog u = .ok (.string Z) u) := fun a c u hu => by rw [hZ]; exact conv_bs hu hN
    have HBS : Hid (∀ u, Below w.heap.size w u → Bs u a c xs) := fun u hu => hB.stays hu
    have HNX : Hid (xs.length = N) := hN.symm
    have hN3 : N ≤ 300 := by omega
    rw [← hfv] at hfl hf1 heq4
    rw [← hN] at hsm ⊢
    obtain ⟨zs, hzs⟩ : ∃ zs, zs = fourV zeros4 := ⟨_, rfl⟩
    have hzl : zs.length = 140 := by rw [hzs]; exact zeros4_len
    have HAL : Hid (∀ w : World, (Instr.alloc 36 true (.tuple #[])).run Try.prog w = .ok (.pointer (some ⟨w.heap.size, 0, none⟩)) (w.alloc (.cells zs.toArray 36))) := by rw [hzs]; exact alloc_four0
    have hbig3 : ¬ 300 < N := by omega
    clear hp he hl hf hfv hN hZ hzs hB hbig hlo hl4
    go_enter Try.func4, Try.ntmps4
    go_wp2_with (first
      | (at_builtin; go_must (refine wpList_append_bytes (w0 := w) (by rfl) (.tmp 16) (.tmp 17) 30 (by rfl) w.heap.size 5 i0 Try.underlying30 hi hz0 hz1' hz2 _ [] (by rfl) (World.ownsRow_made w #[] 0 (Nat.le_refl _) (by decide) rfl) a N c xs (by rfl) HNX.out.symm (HBS.out _ ((Below.refl _ _).alloc (Nat.le_refl _) _)) (by have := HNX.out; simp; omega) (by simp) ((Below.refl _ _).alloc (Nat.le_refl _) _) ?_); rw [List.nil_append]; intro v1 w1 hown1 hb1
         obtain ⟨a1, c1, rfl, hO1⟩ := Bs.of_owns hown1 hrng
         rw [HNX.out]; clear hown1)
      | (go_at_call 17; go_must (refine (HD1.out a1 c1 _ hO1).mono ?_); rintro e' w2 ⟨rfl, hb2⟩; have hO2 := hO1.stays hb2; have hX2 := hb1.trans (hb2.mono hb1.size))
      | (refine wpList_alloc0 (by rfl) 26 (by rfl) (some 4) (by rfl) Pt.zero.vs alloc_ptr0 ?_; intro w3 hP3 hb3 hs3; have hO3 := hO2.stays hb3; have hX3 := hX2.trans (hb3.mono hX2.size))
      | (refine wpList_store_blk (by rfl) (.tmp 4) (.tmp 22) 26 (by rfl) _ 0 35 (by rfl) _ (by rfl) size_ptr hP3 hvl (by omega) (Pt.vs_one _) _ (whole_store hpz) ?_
         intro w4 hP4 hbut4 hs4
         have hX4 := hX3.trans (hbut4.below hX2.size (by have := hX2.size; omega))
         have hO4 := hO3.but hbut4 (fun hne b hb => by have := hO2.lt hne hb; omega))
      | (go_at_call 18; go_must (refine (HD2.out a c _ (HBS.out _ hX4)).mono ?_); rintro e' w5 ⟨rfl, hb5⟩; have hO5 := hO4.stays hb5; have hP5 := hP4.stays hb5; have hX5 := hX4.trans (hb5.mono hX4.size))
      | (refine wpList_alloc0 (by rfl) 26 (by rfl) (some 6) (by rfl) Pt.zero.vs alloc_ptr0 ?_; intro w6 hQ6 hb6 hs6; have hO6 := hO5.stays hb6; have hP6 := hP5.stays hb6; have hX6 := hX5.trans (hb6.mono hX5.size))
      | (refine wpList_store_blk (by rfl) (.tmp 6) (.tmp 27) 26 (by rfl) _ 0 35 (by rfl) _ (by rfl) size_ptr hQ6 hvl (by omega) (Pt.vs_one _) _ (whole_store hpz) ?_
         intro w7 hQ7 hbut7 hs7
         have hX7 := hX6.trans (hbut7.below hX5.size (by have := hX5.size; omega))
         have hO7 := hO6.but hbut7 (fun hne b hb => by have := hO5.lt hne hb; omega)
         have hP7 := hP6.but hbut7 (by have := hP5.lt; omega))
      | (go_at_call 19; go_must (refine (HR1.out a1 c1 _ hO7).mono ?_); rintro e' w8 ⟨rfl, hb8⟩; have hO8 := hO7.stays hb8; have hP8 := hP7.stays hb8; have hQ8 := hQ7.stays hb8; have hX8 := hX7.trans (hb8.mono hX7.size))
      | (refine wpList_alloc0 (by rfl) 36 (by rfl) (some 8) (by rfl) zs HAL.out ?_; intro w9 hL9 hb9 hs9; have hO9 := hO8.stays hb9; have hP9 := hP8.stays hb9; have hQ9 := hQ8.stays hb9; have hX9 := hX8.trans (hb9.mono hX8.size))
      | (refine wpList_store_blk (by rfl) (.tmp 8) (.tmp 32) 36 (by rfl) _ 0 140 (by rfl) _ (by rfl) size_four hL9 hfl (by omega) hf1 _ (whole_store hzl) ?_
         intro wA hLA hbutA hsA
         have hXA := hX9.trans (hbutA.below hX8.size (by have := hX8.size; omega))
         have hOA := hO9.but hbutA (fun hne b hb => by have := hO8.lt hne hb; omega)
         have hPA := hP9.but hbutA (by have := hP8.lt; omega)
         have hQA := hQ9.but hbutA (by have := hQ8.lt; omega))
      | (go_at_call 20; go_must (refine (HR2.out a c _ (HBS.out _ hXA)).mono ?_); rintro e' wB ⟨rfl, hbB⟩; have hOB := hOA.stays hbB; have hPB := hPA.stays hbB; have hQB := hQA.stays hbB; have hLB := hLA.stays hbB; have hXB := hXA.trans (hbB.mono hXA.size))
      | (refine wpList_alloc0 (by rfl) 36 (by rfl) (some 10) (by rfl) zs HAL.out ?_; intro wC hMC hbC hsC; have hOC := hOB.stays hbC; have hPC := hPB.stays hbC; have hQC := hQB.stays hbC; have hLC := hLB.stays hbC; have hXC := hXB.trans (hbC.mono hXB.size))
      | (refine wpList_store_blk (by rfl) (.tmp 10) (.tmp 37) 36 (by rfl) _ 0 140 (by rfl) _ (by rfl) size_four hMC hfl (by omega) hf1 _ (whole_store hzl) ?_
         intro wD hMD hbutD hsD
         have hXD := hXC.trans (hbutD.below hXB.size (by have := hXB.size; omega))
         have hOD := hOC.but hbutD (fun hne b hb => by have := hOB.lt hne hb; omega)
         have hPD := hPC.but hbutD (by have := hPB.lt; omega)
         have hQD := hQC.but hbutD (by have := hQB.lt; omega)
         have hLD := hLC.but hbutD (by have := hLB.lt; omega))
      | (go_at_call 9; go_must (refine (HAV.out _).mono ?_); rintro e' wE ⟨rfl, hbE⟩
         have hPE := hPD.stays hbE; have hQE := hQD.stays hbE; have hLE := hLD.stays hbE; have hME := hMD.stays hbE; have hXE := hXD.trans (hbE.mono hXD.size)
         have hv1 := HCV.out a1 c1 _ (hOD.stays hbE); have hv2 := HCV.out a c _ (HBS.out _ hXE))
      | (refine wpList_load_blk_guard (by rfl) (.tmp 4) 26 (by rfl) _ 0 35 (by rfl) agg_ptr size_ptr hPE _ (whole_load hvl) hvl ?_)
      | (refine wpList_load_blk_guard (by rfl) (.tmp 6) 26 (by rfl) _ 0 35 (by rfl) agg_ptr size_ptr hQE _ (whole_load hvl) hvl ?_)
      | (refine wpList_load_blk_guard (by rfl) (.tmp 8) 36 (by rfl) _ 0 140 (by rfl) agg_four size_four hLE _ (whole_load hfl) hfl ?_)
      | (refine wpList_load_blk_guard (by rfl) (.tmp 10) 36 (by rfl) _ 0 140 (by rfl) agg_four size_four hME _ (whole_load hfl) hfl ?_))
    go_ret
    exact ⟨rfl, hXE⟩
end Go.Proofs.Ytobfegmkjiggdaa
