/-
  The walk of the law LabelDecode.
-/
import Derived.Test.YteocmmmnfbabaaaDoorLbAlive
namespace Go.Proofs.YteocmmmnfbabaaaDoor
set_option linter.unusedSimpArgs false
set_option linter.unusedVariables false
set_option maxRecDepth 100000
open Go.RowKit

theorem Out.blk {base n c : Nat} {w : World} {a : Option Addr} {xs : List Int} (h : Out base w (.slice a n c) xs) (h0 : 0 < n) : ∃ g vs, a = some ⟨g, 0, none⟩ ∧ base ≤ g ∧ Blk 5 w g vs ∧ n ≤ vs.length ∧ n ≤ c := by
  unfold Out at h
  rcases h.2 with ⟨h1, h2⟩ | ⟨g, cap, cur, h1, h2, h3, h4, h5, h6, h7⟩
  · cases h1; omega
  · injection h1 with h8 h9 h10
    refine ⟨g, cur.toList, h8, h2, by unfold Blk; simpa using h3, by simp only [Array.length_toList]; omega, by omega⟩

theorem index_sl7 {P : Program} {t e : TypeId} {g n c j : Nat} (ht : P.underlying t = some (.slice e)) (hs : (P.info? e).map (·.size) = some 1) (hj : j < n) (w : World) :
    (Instr.indexAt t (.slice (some ⟨g, 0, none⟩) n c) (.int .i64 (j : Int))).run P w = .ok (.pointer (some ⟨g, j, none⟩)) w := by
  have hz := sizeOf_run hs w
  have hb : (0 : Int) ≤ (j : Int) ∧ (j : Int) < (n : Int) := by omega
  have hadd : (⟨g, 0, none⟩ : Addr).add j = ⟨g, j, none⟩ := by unfold Addr.add; split <;> simp_all
  simp [Instr.indexAt, asIntOf, run_underlying ht, hz, hb, hadd, Sem.run_bind, Instr.sureAddr]
  try omega

set_option maxHeartbeats 40000000 in
theorem dec_walk (a : Option Addr) (c : Nat) (xs : List Int) (w : World) (hB : Bs w a c xs) (hV : Vars w) :
    Calls Tryd.prog 4 #[.slice a xs.length c] w fun e w' => e = .returned (.bool true) ∧ Below w.heap.size w w' := by
  obtain ⟨i0, hi, hz0, hz1, hz2⟩ := info_parts Tryd.info5
  obtain ⟨n, hn⟩ : ∃ n, n = xs.length := ⟨_, rfl⟩
  rw [← hn]
  have HN : Hid (n = xs.length) := hn
  have hnl : n ≤ 9223372036854775807 := by have h1 := hB.cap; have h2 := hB.capm; unfold maxLen at h2; omega
  clear hn
  by_cases hbig : 300 < n
  · have hd : decide ((300 : Int) < (n : Int)) = true := by simp; omega
    have hal := lalive_run w hV
    go_enter Tryd.func4, Tryd.ntmps4
    go_wp2_with (first
      | (go_at_call 8; go_must (refine hal.mono ?_); rintro e w1 ⟨rfl, hb1⟩))
    go_ret
    exact ⟨rfl, hb1⟩
  · have hd : decide ((300 : Int) < (n : Int)) = false := by simp; omega
    have hDok := decL_ok hB.rng
    obtain ⟨D, hD⟩ : ∃ D, D = (decL xs).1 := ⟨_, rfl⟩
    obtain ⟨E, hE⟩ : ∃ E, E = (decL xs).2 := ⟨_, rfl⟩
    rw [← hD] at hDok
    have hdec : ∀ (u : World) (a : Option Addr) (c : Nat), Bs u a c xs → Vars u → Calls Tryd.prog 13 #[.slice a n c] u fun e w' => ∃ a' c', e = .returned (.tuple #[.agg (D.vs a' c').toArray, .int .i64 (E : Int)]) ∧ Out u.heap.size w' (.slice a' D.m.length c') D.m ∧ Below u.heap.size u w' := fun u a c hb hv => by
      rw [hD, hE]; exact ldecode_run a c n xs u HN.out hb hv
    have hrdec : ∀ (u : World), Bs u a c xs → Calls Tryd.prog 14 #[.slice a n c] u fun e w' => ∃ a' c', e = .returned (.tuple #[.agg (D.vs a' c').toArray, .int .i64 (E : Int)]) ∧ Bs w' a' c' D.m ∧ Below u.heap.size u w' := fun u hb => by
      rw [hD, hE]; exact lrdecode_run a c n xs u HN.out hb
    have hvl : ∀ a c, (D.vs a c).length = 37 := fun a c => Lb.vs_len hDok.p a c
    have HVO : Hid (∀ a c, ∀ v ∈ D.vs a c, v.oneCell' = true) := fun a c => Lb.vs_one _ _ _
    have HMP : Hid (∀ a c, (D.vs a c)[36]? = some (.slice a D.m.length c)) := fun a c => Lb.vs_map hDok.p a c
    have hsame : ∀ (u : World) (a a' : Option Addr) (c c' : Nat), Bs u a c D.m → Bs u a' c' D.m → Calls Tryd.prog 15 #[.agg (D.vs a c).toArray, .agg (D.vs a' c').toArray] u fun e w' => e = .returned (.bool true) ∧ Below u.heap.size u w' := fun u a a' c c' h1 h2 => by
      have := same_run D D hDok hDok a a' c c' u h1 h2
      rwa [Lb.same_self] at this
    have hzl := zero_vs_len
    obtain ⟨zs, hzs⟩ : ∃ zs, zs = Lb.zero.vs none 0 := ⟨_, rfl⟩
    have HAL : Hid (∀ w : World, (Instr.alloc 29 true (.tuple #[])).run Tryd.prog w = .ok (.pointer (some ⟨w.heap.size, 0, none⟩)) (w.alloc (.cells zs.toArray 29))) := by rw [hzs]; exact alloc_label0
    rw [← hzs] at hzl
    clear hzs
    obtain ⟨M, hM⟩ : ∃ M, M = D.m.length := ⟨_, rfl⟩
    have hMl : M ≤ 256 := by
      rw [hM, hD]
      unfold decL
      split
      · simp [Lb.zero]
      · split
        · simp [Lb.zero]
        · split
          · rw [lbOf_len (by omega)]; omega
          · simp [Lb.zero]
    rw [← hM] at hdec HMP
    have HM : Hid (M = D.m.length) := hM
    have HLEN : Hid (¬ 300 < n) := hbig
    clear hD hE hM hbig
    go_enter Tryd.func4, Tryd.ntmps4
    go_wp2_with (first
      | (at_builtin; (refine wpList_append_bytes (w0 := w) (by rfl) (.tmp 14) (.tmp 15) 27 (by rfl) w.heap.size 5 i0 Tryd.underlying27 hi hz0 hz1 hz2 _ [] (by rfl) (World.ownsRow_made w #[] 0 (Nat.le_refl _) (by decide) rfl) a n c xs (by rfl) HN.out (hB.stays ((Below.refl _ _).alloc (Nat.le_refl _) _)) (by have := HN.out; have := HLEN.out; simp only [List.length_nil]; omega) (by simp) ((Below.refl _ _).alloc (Nat.le_refl _) _) ?_)
         rw [List.nil_append]
         intro v1 w1 hown1 hb1
         obtain ⟨ao, co, rfl, hBo1⟩ := Bs.of_owns hown1 hB.rng
         rw [← HN.out]
         have hao : ∀ x, ao = some x → w.heap.size ≤ x.block ∧ x.block < w1.heap.size := fun x hx => World.ownsRow.lt hown1 x.block (by rw [hx]; rfl)
         have hd1 := hdec w1 ao co hBo1 (hV.stays hb1))
      | (go_at_call 13; go_must (refine hd1.mono ?_); rintro e w2 ⟨a2, c2, rfl, hO2, hb2⟩
         have hB2 := (Out.bs hO2 hDok.m).2.1
         have hBo2 := hBo1.stays hb2)
      | ((with_reducible show wpList _ _ _ (Oper.mk _ (Op.alloc _) _ _ _ _ :: _) _ _); refine wpList_alloc0 (by rfl) 29 (by rfl) (some 4) (by rfl) _ HAL.out ?_; intro w3 hL3 hb3 hs3)
      | ((with_reducible show wpList _ _ _ (Oper.mk _ (Op.store _ _ _) _ _ _ _ :: _) _ _); refine wpList_store_blk (by rfl) (.tmp 4) (.tmp 20) 29 (by rfl) _ 0 37 (by rfl) (D.vs a2 c2) (by rfl) size_label hL3 (hvl _ _) (by omega) (HVO.out _ _) _ (whole_store hzl) ?_
         intro w4 hL4 hbut4 hs4
         have hb4 : Below w2.heap.size w2 w4 := hb3.trans (hbut4.below (Nat.le_refl _) hb3.size)
         have hb4' := below_then (below_then hb1 hb2) hb4
         have hrd4 := hrdec w4 (hB.stays hb4'))
      | (go_at_call 14; go_must (refine hrd4.mono ?_); rintro e w5 ⟨a5, c5, rfl, hB5, hb5⟩
         have hL5 := hL4.stays hb5)
      | ((with_reducible show wpList _ _ _ (Oper.mk _ (Op.alloc _) _ _ _ _ :: _) _ _); refine wpList_alloc0 (by rfl) 29 (by rfl) (some 6) (by rfl) _ HAL.out ?_; intro w6 hK6 hb6 hs6)
      | ((with_reducible show wpList _ _ _ (Oper.mk _ (Op.store _ _ _) _ _ _ _ :: _) _ _); refine wpList_store_blk (by rfl) (.tmp 6) (.tmp 25) 29 (by rfl) _ 0 37 (by rfl) (D.vs a5 c5) (by rfl) size_label hK6 (hvl _ _) (by omega) (HVO.out _ _) _ (whole_store hzl) ?_
         intro w7 hK7 hbut7 hs7
         have hb7 : Below w5.heap.size w5 w7 := hb6.trans (hbut7.below (Nat.le_refl _) hb6.size)
         have hL7 := hL5.stays hb7
         have hb27 := below_then (below_then hb4 hb5) hb7
         have hsm := hsame w7 a2 a5 c2 c5 (hB2.stays hb27) (hB5.stays hb7))
      | ((with_reducible show wpList _ _ _ (Oper.mk _ (Op.load _ _) _ _ _ _ :: _) _ _); refine wpList_load_blk (by rfl) (.tmp 4) 29 (by rfl) _ 0 37 (by rfl) agg_label size_label hL7 _ (whole_load (hvl _ _)) (hvl _ _) ?_)
      | ((with_reducible show wpList _ _ _ (Oper.mk _ (Op.load _ _) _ _ _ _ :: _) _ _); refine wpList_load_blk (by rfl) (.tmp 6) 29 (by rfl) _ 0 37 (by rfl) agg_label size_label hK7 _ (whole_load (hvl _ _)) (hvl _ _) ?_)
      | (go_at_call 15; go_must (refine hsm.mono ?_); rintro e w8 ⟨rfl, hb8⟩
         have hL8 := hL7.stays hb8))
    have hb28 := below_then hb27 hb8
    have hb8' := below_then (below_then hb1 hb2) hb28
    have hBo8 := hBo2.stays hb28
    have hcM8 : w8.cell? ⟨w2.heap.size, 36, none⟩ = some (.slice a2 M c2) := (hL8.cell 36).trans (HMP.out _ _)
    by_cases hM0 : M = 0
    · go_loopw [9] (fun i wr => i = .int .i64 0 ∧ wr = w8) (fun _ _ => 0)
      case atStart => exact ⟨rfl, rfl⟩
      case round =>
      rename_i hrel
      obtain ⟨rfl, rfl⟩ := hrel
      subst hM0
      have hal := lalive_run _ (hV.stays hb8')
      go_wp2_with (first
        | (go_at_call 8; go_must (refine hal.mono ?_); rintro e wE ⟨rfl, hbE⟩
           have hbE' := below_then hb8' hbE
           have hBoE := hBo8.stays hbE
           have hcv1 : (convert 27 9 (.slice ao n co)).run Tryd.prog wE = .ok (.string (strOfNums xs)) wE := hBoE.conv (P := Tryd.prog) n HN.out 27 5 Tryd.underlying27 Tryd.underlying5 9 Tryd.underlying9
           have hcv2 : (convert 27 9 (.slice a n c)).run Tryd.prog wE = .ok (.string (strOfNums xs)) wE := (hB.stays hbE').conv (P := Tryd.prog) n HN.out 27 5 Tryd.underlying27 Tryd.underlying5 9 Tryd.underlying9))
      go_ret
      exact ⟨by simp, hbE'⟩
    · obtain ⟨g2, vs2, rfl, hg2, hG2, hvs2, hM2⟩ := Out.blk hO2 (by omega : 0 < M)
      have hG8 := hG2.stays hb28
      have hg2n : g2 < w2.heap.size := hG2.lt
      clear hL3 hL4 hL5 hL7 hK6 hK7 hO2 hd1 hrd4 hsm hM0
      go_loopw [9] (fun i wr => ∃ k : Nat, ∃ vs, k ≤ M ∧ i = .int .i64 k ∧ Blk 5 wr g2 vs ∧ M ≤ vs.length ∧ Blk 29 wr w2.heap.size (D.vs (some ⟨g2, 0, none⟩) c2) ∧ Bs wr ao co xs ∧ Below w.heap.size w wr) (fun i _ => M - (intOf i).toNat)
      case atStart => exact ⟨0, vs2, by omega, rfl, hG8, hvs2, hL8, hBo8, hb8'⟩
      case round =>
      rename_i hrel
      obtain ⟨k, vs, hk, rfl, hGr, hvr, hLr, hBor, hbr⟩ := hrel
      have hcMr : wr.cell? ⟨w2.heap.size, 36, none⟩ = some (.slice (some ⟨g2, 0, none⟩) M c2) := (hLr.cell 36).trans (HMP.out _ _)
      clear hcM8 hG8 hL8 hBo8
      by_cases hlt : k < M
      · have hdl : decide ((k : Int) < (M : Int)) = true := by simp; omega
        have hix : ∀ u : World, (Instr.indexAt 27 (.slice (some ⟨g2, 0, none⟩) M c2) (.int .i64 (k : Int))).run Tryd.prog u = .ok (.pointer (some ⟨g2, k, none⟩)) u := fun u => by
          have := index_sl7 (P := Tryd.prog) (t := 27) (e := 5) (g := g2) (n := M) (c := c2) (j := k) Tryd.underlying27 sizes5 hlt u
          exact this
        go_wp2_with (first
          | ((with_reducible show wpList _ _ _ (Oper.mk _ (Op.store _ _ _) _ _ _ _ :: _) _ _); refine wpList_store_int (by rfl) (.tmp 45) (.const (.int .u8 9)) 5 (by rfl) g2 k (by rfl) .u8 9 (by rfl) size_u8 hGr (by omega) ?_
             intro wS hGS hbutS hsS))
        refine ⟨⟨k + 1, _, by omega, by go_num, hGS, by simp; omega, hLr.but hbutS (by omega), hBor.but hbutS (fun h0 b hb => ?_), hbr.trans (hbutS.below (by have := hb1.size; omega) hbr.size)⟩, by simp [intOf]; omega⟩
        have := hao b hb
        omega
      · have hdl : decide ((k : Int) < (M : Int)) = false := by simp; omega
        have hal := lalive_run _ (hV.stays hbr)
        go_wp2_with (first
          | (go_at_call 8; go_must (refine hal.mono ?_); rintro e wE ⟨rfl, hbE⟩
             have hbE' := below_then hbr hbE
             have hBoE := hBor.stays hbE
             have hcv1 : (convert 27 9 (.slice ao n co)).run Tryd.prog wE = .ok (.string (strOfNums xs)) wE := hBoE.conv (P := Tryd.prog) n HN.out 27 5 Tryd.underlying27 Tryd.underlying5 9 Tryd.underlying9
             have hcv2 : (convert 27 9 (.slice a n c)).run Tryd.prog wE = .ok (.string (strOfNums xs)) wE := (hB.stays hbE').conv (P := Tryd.prog) n HN.out 27 5 Tryd.underlying27 Tryd.underlying5 9 Tryd.underlying9))
        go_ret
        exact ⟨by simp, hbE'⟩

end Go.Proofs.YteocmmmnfbabaaaDoor
