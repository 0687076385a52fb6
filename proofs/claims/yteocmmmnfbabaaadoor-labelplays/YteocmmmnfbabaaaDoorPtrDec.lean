/-
  The walks over ptr.written and ptr.Decode.
-/
import Derived.Test.YteocmmmnfbabaaaDoorPtrLaws
namespace Go.Proofs.YteocmmmnfbabaaaDoor
set_option linter.unusedSimpArgs false
set_option linter.unusedVariables false
open Go.RowKit

theorem zero_splice {xs : List Int} (h : xs.length = 32) : splice Pt.zero.vs 0 (xs.map (Value.int .u8)) = Pt.vs ⟨xs, 0, 0, 0⟩ := by
  unfold splice Pt.vs
  simp [h, Pt.zero]

set_option maxHeartbeats 1000000 in
set_option maxRecDepth 100000 in
theorem written_run (a : Option Addr) (c : Nat) (xs : List Int) (w : World) (hB : Bs w a c xs) (hl : xs.length = 44) :
    Calls Tryd.prog 68 #[.slice a 44 c] w fun e w' => e = .returned (.agg (decP xs).vs.toArray) ∧ Below w.heap.size w w' := by
  obtain ⟨a', c', hrun, hB'⟩ := Bs.fromAll (P := Tryd.prog) a c xs 27 5 Tryd.underlying27 sizes5 Tryd.elem27 32 (by omega)
  have hsl : ∀ u : World, (Instr.slice 27 (.slice a 44 c) (some (.int .i64 32)) none none).run Tryd.prog u = .ok (.slice a' 12 c') u := fun u => by
    have := hrun u .i64
    rw [hl] at this
    exact this
  have hx1 : (xs.take 32).length = 32 := by simp; omega
  have hx2 : (xs.drop 32).length = 12 := by simp; omega
  have hx3 : (xs.drop 36).length = 8 := by simp; omega
  have hx4 : (xs.drop 40).length = 4 := by simp; omega
  have H32 : Hid ((xs.drop 32).drop 4 = xs.drop 36) := by show _ = _; rw [List.drop_drop]
  have H36 : Hid ((xs.drop 36).drop 4 = xs.drop 40) := by show _ = _; rw [List.drop_drop]
  obtain ⟨n0, hn0⟩ : ∃ n, n = n32 (xs.drop 32) := ⟨_, rfl⟩
  obtain ⟨n1, hn1⟩ : ∃ n, n = n32 (xs.drop 36) := ⟨_, rfl⟩
  obtain ⟨n2, hn2⟩ : ∃ n, n = n32 (xs.drop 40) := ⟨_, rfl⟩
  have HN : Hid (n0 = n32 (xs.drop 32) ∧ n1 = n32 (xs.drop 36) ∧ n2 = n32 (xs.drop 40)) := ⟨hn0, hn1, hn2⟩
  have hzl : Pt.zero.vs.length = 35 := Pt.vs_len Pt.zero_ok
  clear hrun hn0 hn1 hn2
  have hok : ∀ b x y : Nat, (Pt.vs ⟨xs.take 32, b, x, y⟩).length = 35 := fun b x y => by rw [Pt.vs, List.length_append, List.length_map]; simp only; rw [hx1]; rfl
  have hne : xs ≠ [] := by intro h; rw [h] at hl; simp at hl
  go_enter Tryd.func68, Tryd.ntmps68
  go_wp2_with (first
    | (refine wpList_alloc0 (by rfl) 26 (by rfl) (some 2) (by rfl) Pt.zero.vs alloc_ptr0 ?_; intro w1 hR1 hb1 hs1)
    | (refine wpList_alloc0 (by rfl) 26 (by rfl) (some 3) (by rfl) Pt.zero.vs alloc_ptr0 ?_; intro w2 hP2 hb2 hs2; have hR2 := hR1.stays hb2; have hB2 := (hB.stays hb1).stays hb2; rw [hs1] at hP2 hs2)
    | (refine wpList_copy_blk (by rfl) (.tmp 7) (.tmp 8) 27 27 (by rfl) 5 Tryd.underlying27 sizes5 _ 0 32 32 _ 44 c (by rfl) (by rfl) hP2 xs 32 hB2 (by decide) (by rfl) (by omega) (by rw [hzl]; omega) ?_
       intro w3 hP3 hbut3 hs3
       rw [zero_splice hx1] at hP3
       have hR3 := hR2.but hbut3 (by omega)
       have hB3 := hB' _ (hB2.but hbut3 (fun _ b hb => by have := hB.lt hne hb; omega))
       have hc0 := take32_nat a' c' 12 8 _ w3 hB3 hx2.symm rfl (by omega)
       rw [← HN.out.1, H32.out] at hc0)
    | (go_at_call_of 44 (Value.slice a' 12 c'); go_must (refine hc0.mono ?_); rintro e w4 ⟨a4, c4, rfl, hB4, hb4, hN4⟩
       have hP4 := hP3.stays hb4; have hR4 := hR3.stays hb4)
    | (refine wpList_store_int (by rfl) (.tmp 17) (.tmp 14) 22 (by rfl) _ 32 (by rfl) .u32 n0 (by rfl) size_u32 hP4 (by rw [hok]; omega) ?_
       intro w5 hP5 hbut5 hs5
       rw [Pt.vs_setb hx1] at hP5
       have hR5 := hR4.but hbut5 (by omega)
       have hB5 := hB4.but hbut5 (fun _ b hb => by have := hN4 b hb; omega)
       have hc1 := take32_nat a4 c4 8 4 _ w5 hB5 hx3.symm rfl (by omega)
       rw [← HN.out.2.1, H36.out] at hc1)
    | (go_at_call_of 44 (Value.slice a4 8 c4); go_must (refine hc1.mono ?_); rintro e w6 ⟨a6, c6, rfl, hB6, hb6, hN6⟩
       have hP6 := hP5.stays hb6; have hR6 := hR5.stays hb6)
    | (refine wpList_store_int (by rfl) (.tmp 25) (.tmp 21) 22 (by rfl) _ 33 (by rfl) .u32 n1 (by rfl) size_u32 hP6 (by rw [hok]; omega) ?_
       intro w7 hP7 hbut7 hs7
       rw [Pt.vs_setx hx1] at hP7
       have hR7 := hR6.but hbut7 (by omega)
       have hB7 := hB6.but hbut7 (fun _ b hb => by have := hN6 b hb; have := hb4.size; omega)
       have hc2 := take32_nat a6 c6 4 0 _ w7 hB7 hx4.symm rfl (by omega)
       rw [← HN.out.2.2] at hc2)
    | (go_at_call_of 44 (Value.slice a6 4 c6); go_must (refine hc2.mono ?_); rintro e w8 ⟨a8, c8, rfl, hB8, hb8, hN8⟩
       have hP8 := hP7.stays hb8; have hR8 := hR7.stays hb8)
    | (refine wpList_store_int (by rfl) (.tmp 33) (.tmp 29) 22 (by rfl) _ 34 (by rfl) .u32 n2 (by rfl) size_u32 hP8 (by rw [hok]; omega) ?_
       intro w9 hP9 hbut9 hs9
       go_must (rw [Pt.vs_sety hx1] at hP9)
       go_must (have hR9 := hR8.but hbut9 (by omega)))
    | (refine wpList_load_blk (by rfl) (.tmp 3) 26 (by rfl) _ 0 35 (by rfl) agg_ptr size_ptr hP9 _ (whole_load (hok _ _ _)) (hok _ _ _) ?_)
    | (refine wpList_store_blk (by rfl) (.tmp 2) (.tmp 34) 26 (by rfl) _ 0 35 (by rfl) _ (by rfl) size_ptr hR9 (hok _ _ _) (by omega) (Pt.vs_one _) _ (whole_store hzl) ?_
       intro wA hRA hbutA hsA))
  refine bodyPost_ret_blk rfl rfl (by rfl) agg_ptr size_ptr hRA (hok _ _ _) ⟨?_, ?_⟩
  · obtain ⟨h1, h2, h3⟩ := HN.out
    unfold decP
    rw [h1, h2, h3]
  · have k1 := hb1.trans (hb2.mono (by omega))
    have k3 := k1.trans (hbut3.below (by omega) (by omega))
    have k4 := k3.trans (hb4.mono (by omega))
    have k5 := k4.trans (hbut5.below (by omega) (by have := hb4.size; omega))
    have k6 := k5.trans (hb6.mono (by have := hb4.size; omega))
    have k7 := k6.trans (hbut7.below (by omega) (by have := hb4.size; have := hb6.size; omega))
    have k8 := k7.trans (hb8.mono (by have := hb4.size; have := hb6.size; omega))
    have k9 := k8.trans (hbut9.below (by omega) (by have := hb4.size; have := hb6.size; have := hb8.size; omega))
    exact k9.trans (hbutA.below (by omega) (by have := hb4.size; have := hb6.size; have := hb8.size; omega))
set_option maxHeartbeats 1000000 in
set_option maxRecDepth 100000 in
theorem decode_run (a : Option Addr) (c n : Nat) (xs : List Int) (w : World) (hn : n = xs.length) (hB : Bs w a c xs) :
    Calls Tryd.prog 42 #[.slice a n c] w fun e w' => e = .returned (.tuple #[.agg (decodeL xs).1.vs.toArray, .int .i64 ((decodeL xs).2 : Int)]) ∧ Below w.heap.size w w' := by
  have hzl : Pt.zero.vs.length = 35 := Pt.vs_len Pt.zero_ok
  unfold decodeL
  rw [← hn]
  rcases (by omega : n < 44 ∨ 44 < n ∨ n = 44) with h | h | h
  · rw [if_pos h]
    have h' : (n : Int) < 44 := by omega
    clear hn hB
    go_enter Tryd.func42, Tryd.ntmps42
    go_wp2_with (first
      | (refine wpList_alloc0 (by rfl) 26 (by rfl) (some 2) (by rfl) Pt.zero.vs alloc_ptr0 ?_; intro w1 hR1 hb1 hs1)
      | (refine wpList_build0 (by rfl) 26 (by rfl) _ build_ptr0 ?_)
      | (refine wpList_store_blk (by rfl) (.tmp 2) (.tmp 8) 26 (by rfl) _ 0 35 (by rfl) _ (by rfl) size_ptr hR1 hzl (by omega) (Pt.vs_one _) _ (whole_store hzl) ?_
         intro w2 hR2 hbut2 hs2))
    refine bodyPost_ret_blk2 rfl rfl (by rfl) (by rfl) agg_ptr size_ptr hR2 hzl ⟨rfl, ?_⟩
    exact hb1.trans (hbut2.below (Nat.le_refl _) (by omega))
  · rw [if_neg (by omega), if_pos h]
    have h' : ¬ (n : Int) < 44 := by omega
    have h'' : (44 : Int) < n := by omega
    clear hn hB
    go_enter Tryd.func42, Tryd.ntmps42
    go_wp2_with (first
      | (refine wpList_alloc0 (by rfl) 26 (by rfl) (some 2) (by rfl) Pt.zero.vs alloc_ptr0 ?_; intro w1 hR1 hb1 hs1)
      | (refine wpList_build0 (by rfl) 26 (by rfl) _ build_ptr0 ?_)
      | (refine wpList_store_blk (by rfl) (.tmp 2) (.tmp 12) 26 (by rfl) _ 0 35 (by rfl) _ (by rfl) size_ptr hR1 hzl (by omega) (Pt.vs_one _) _ (whole_store hzl) ?_
         intro w2 hR2 hbut2 hs2))
    refine bodyPost_ret_blk2 rfl rfl (by rfl) (by rfl) agg_ptr size_ptr hR2 hzl ⟨rfl, ?_⟩
    exact hb1.trans (hbut2.below (Nat.le_refl _) (by omega))
  · rw [if_neg (by omega), if_neg (by omega)]
    have hl : xs.length = 44 := by omega
    have hok := decP_ok hB.rng (by omega)
    have hvl := Pt.vs_len hok
    have hm := may_run (decP xs) hok
    subst h
    clear hn
    obtain ⟨p, hp⟩ : ∃ p, p = decP xs := ⟨_, rfl⟩
    have hwr : ∀ u, Bs u a c xs → Calls Tryd.prog 68 #[.slice a 44 c] u fun e w' => e = .returned (.agg p.vs.toArray) ∧ Below u.heap.size u w' := fun u hu => by rw [hp]; exact written_run a c xs u hu hl
    have HWR : Hid (∀ u, Bs u a c xs → Calls Tryd.prog 68 #[.slice a 44 c] u fun e w' => e = .returned (.agg p.vs.toArray) ∧ Below u.heap.size u w') := hwr
    rw [← hp] at hok hvl hm ⊢
    clear hwr hp
    cases hmv : p.may
    · rw [hmv] at hm
      rw [if_neg (by simp)]
      go_enter Tryd.func42, Tryd.ntmps42
      go_wp2_with (first
        | (refine wpList_alloc0 (by rfl) 26 (by rfl) (some 2) (by rfl) Pt.zero.vs alloc_ptr0 ?_; intro w1 hR1 hb1 hs1)
        | (go_at_call 68; go_must (refine (HWR.out _ (hB.stays hb1)).mono ?_); rintro e w2 ⟨rfl, hb2⟩; have hR2 := hR1.stays hb2)
        | (refine wpList_alloc0 (by rfl) 26 (by rfl) (some 4) (by rfl) Pt.zero.vs alloc_ptr0 ?_; intro w3 hP3 hb3 hs3; have hR3 := hR2.stays hb3)
        | (refine wpList_store_blk (by rfl) (.tmp 4) (.tmp 14) 26 (by rfl) _ 0 35 (by rfl) _ (by rfl) size_ptr hP3 hvl (by omega) (Pt.vs_one _) _ (whole_store hzl) ?_
           intro w4 hP4 hbut4 hs4; have hR4 := hR3.but hbut4 (by have := hb2.size; omega))
        | (refine wpList_load_blk (by rfl) (.tmp 4) 26 (by rfl) _ 0 35 (by rfl) agg_ptr size_ptr hP4 _ (whole_load hvl) hvl ?_)
        | (go_at_call 33; go_must (refine (hm _).mono ?_); rintro e w5 ⟨rfl, hb5⟩; have hR5 := hR4.stays hb5)
        | (refine wpList_build0 (by rfl) 26 (by rfl) _ build_ptr0 ?_)
        | (refine wpList_store_blk (by rfl) (.tmp 2) (.tmp 18) 26 (by rfl) _ 0 35 (by rfl) _ (by rfl) size_ptr hR5 hzl (by omega) (Pt.vs_one _) _ (whole_store hzl) ?_
           intro w6 hR6 hbut6 hs6))
      refine bodyPost_ret_blk2 rfl rfl (by rfl) (by rfl) agg_ptr size_ptr hR6 hzl ⟨rfl, ?_⟩
      have z2 := hb2.size
      have z5 := hb5.size
      exact ((((hb1.trans (hb2.mono (by omega))).trans (hb3.mono (by omega))).trans (hbut4.below (by omega) (by omega))).trans (hb5.mono (by omega))).trans (hbut6.below (Nat.le_refl _) (by omega))
    · rw [hmv] at hm
      rw [if_pos rfl]
      go_enter Tryd.func42, Tryd.ntmps42
      go_wp2_with (first
        | (refine wpList_alloc0 (by rfl) 26 (by rfl) (some 2) (by rfl) Pt.zero.vs alloc_ptr0 ?_; intro w1 hR1 hb1 hs1)
        | (go_at_call 68; go_must (refine (HWR.out _ (hB.stays hb1)).mono ?_); rintro e w2 ⟨rfl, hb2⟩; have hR2 := hR1.stays hb2)
        | (refine wpList_alloc0 (by rfl) 26 (by rfl) (some 4) (by rfl) Pt.zero.vs alloc_ptr0 ?_; intro w3 hP3 hb3 hs3; have hR3 := hR2.stays hb3)
        | (refine wpList_store_blk (by rfl) (.tmp 4) (.tmp 14) 26 (by rfl) _ 0 35 (by rfl) _ (by rfl) size_ptr hP3 hvl (by omega) (Pt.vs_one _) _ (whole_store hzl) ?_
           intro w4 hP4 hbut4 hs4; have hR4 := hR3.but hbut4 (by have := hb2.size; omega))
        | (refine wpList_load_blk (by rfl) (.tmp 4) 26 (by rfl) _ 0 35 (by rfl) agg_ptr size_ptr hP4 _ (whole_load hvl) hvl ?_)
        | (go_at_call 33; go_must (refine (hm _).mono ?_); rintro e w5 ⟨rfl, hb5⟩; have hR5 := hR4.stays hb5; have hP5 := hP4.stays hb5)
        | (refine wpList_load_blk (by rfl) (.tmp 4) 26 (by rfl) _ 0 35 (by rfl) agg_ptr size_ptr hP5 _ (whole_load hvl) hvl ?_)
        | (refine wpList_store_blk (by rfl) (.tmp 2) (.tmp 19) 26 (by rfl) _ 0 35 (by rfl) _ (by rfl) size_ptr hR5 hvl (by omega) (Pt.vs_one _) _ (whole_store hzl) ?_
           intro w6 hR6 hbut6 hs6))
      refine bodyPost_ret_blk2 rfl rfl (by rfl) (by rfl) agg_ptr size_ptr hR6 hvl ⟨rfl, ?_⟩
      have z2 := hb2.size
      have z5 := hb5.size
      exact ((((hb1.trans (hb2.mono (by omega))).trans (hb3.mono (by omega))).trans (hbut4.below (by omega) (by omega))).trans (hb5.mono (by omega))).trans (hbut6.below (Nat.le_refl _) (by omega))

end Go.Proofs.YteocmmmnfbabaaaDoor
