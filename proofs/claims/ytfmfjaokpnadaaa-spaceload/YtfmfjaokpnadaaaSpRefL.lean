/-
  The document's Load, and like numbers.
-/
import Derived.Test.YtfmfjaokpnadaaaSpRefN
import Derived.Test.YtfmfjaokpnadaaaSpLoad
import Derived.Test.YtfmfjaokpnadaaaSpPure5
import Derived.Test.YtfmfjaokpnadaaaUpKit
import Derived.StillTailTactics
namespace Go.Proofs.Ytfmfjaokpnadaaa
set_option linter.unusedSimpArgs false
set_option linter.unusedVariables false
open Go.RowKit

set_option maxHeartbeats 4000000 in
theorem rload_bad (n : Int) (hn : ¬ (16 ≤ n ∧ n ≤ 512)) (v : Value) (w : World) : Calls Try.prog 27 #[v, .int .i64 n] w fun e w' => e = .returned (.tuple #[.agg #[.slice none 0 0], .int .i64 1]) ∧ Below w.heap.size w w' := by
  have hz2 : ∀ a n c, [Value.slice a n c].length = 1 := fun _ _ _ => rfl
  have HN : Hid (∀ u, Calls Try.prog 9 #[.int .i64 n] u fun e w' => e = .returned (.tuple #[.agg #[.slice none 0 0], .int .i64 1]) ∧ Below u.heap.size u w') := fun u => rnew_bad n hn u
  clear hn
  go_enter Try.func27, Try.ntmps27
  go_wp2_with (first
    | (refine wpList_alloc0 (by rfl) 29 (by rfl) (some 4) (by rfl) _ alloc_rmap ?_; intro w1 hR1 hb1 hs1)
    | (go_at_call 9; refine (HN.out _).mono ?_; rintro e w2 ⟨rfl, hb2⟩; have hR2 := hR1.stays hb2; have hz := hb2.size)
    | (refine wpList_alloc0 (by rfl) 29 (by rfl) (some 6) (by rfl) _ alloc_rmap ?_; intro w3 hM3 hb3 hs3; have hR3 := hR2.stays hb3; have hm3 := hM3.cell 0; have hf3 := hM3.free 0; have hR4 := hR3.but ((But.refl w2.heap.size w3).setCell 0 (.slice none 0 0)) (by omega); have hr4 := hR4.cell 0; have hfr4 := hR4.free 0))
  refine bodyPost_ret_blk2 rfl rfl (by rfl) (by rfl) agg_rmap size_rmap (hR4.set 0 _) (hz2 _ _ _) ⟨rfl, ?_⟩
  exact (((hb1.trans (hb2.mono (by omega))).trans (hb3.mono (by omega))).setCell (by simp; omega) _).setCell (by simp) _

set_option maxHeartbeats 4000000 in
theorem rload_len (n : Nat) (h16 : 16 ≤ n) (h512 : n ≤ 512) (a : Option Addr) (m c : Nat) (hm : m ≠ 64) (w : World) : Calls Try.prog 27 #[.slice a m c, .int .i64 (n : Int)] w fun e w' => e = .returned (.tuple #[.agg #[.slice none 0 0], .int .i64 3]) ∧ Below w.heap.size w w' := by
  have hz2 : ∀ a n c, [Value.slice a n c].length = 1 := fun _ _ _ => rfl
  have HN : Hid (∀ u, Calls Try.prog 9 #[.int .i64 (n : Int)] u fun e w' => ∃ q c, e = .returned (.tuple #[.agg #[.slice (some ⟨q, 0, none⟩) n c], .int .i64 0]) ∧ Tr w' q c (lab n 4) ∧ u.heap.size ≤ q ∧ Below u.heap.size u w') := fun u => rnew_run n h16 h512 u
  have hne : ((m : Int) == 64) = false := beq_false_of_ne (by omega)
  have hne' : (m == 64) = false := beq_false_of_ne hm
  clear hm
  go_enter Try.func27, Try.ntmps27
  go_wp2_with (first
    | (refine wpList_alloc0 (by rfl) 29 (by rfl) (some 4) (by rfl) _ alloc_rmap ?_; intro w1 hR1 hb1 hs1)
    | (go_at_call 9; refine (HN.out _).mono ?_; rintro e w2 ⟨q, cq, rfl, hT2, hq2, hb2⟩; have hR2 := hR1.stays hb2; have hz := hb2.size)
    | (refine wpList_alloc0 (by rfl) 29 (by rfl) (some 6) (by rfl) _ alloc_rmap ?_; intro w3 hM3 hb3 hs3; have hR3 := hR2.stays hb3; have hm3 := hM3.cell 0; have hf3 := hM3.free 0; have hR4 := hR3.but ((But.refl w2.heap.size w3).setCell 0 (.slice (some ⟨q, 0, none⟩) n cq)) (by omega); have hr4 := hR4.cell 0; have hfr4 := hR4.free 0)
    | (refine wpList_build0 (by rfl) 29 (by rfl) _ build_rmap0 ?_))
  refine bodyPost_ret_blk2 rfl rfl (by rfl) (by rfl) agg_rmap size_rmap (hR4.set 0 _) (hz2 _ _ _) ⟨rfl, ?_⟩
  exact (((hb1.trans (hb2.mono (by omega))).trans (hb3.mono (by omega))).setCell (by simp; omega) _).setCell (by simp) _

set_option maxRecDepth 100000 in
set_option maxHeartbeats 8000000 in
theorem rload_walk (n : Nat) (h16 : 16 ≤ n) (h512 : n ≤ 512) (a : Option Addr) (c : Nat) (xs : List Int) (w : World) (hB : Bs w a c xs) (hl : xs.length = 64) :
    Calls Try.prog 27 #[.slice a 64 c, .int .i64 (n : Int)] w fun e w' =>
      (okX xs n ∧ ∃ q cq, e = .returned (.tuple #[.agg #[.slice (some ⟨q, 0, none⟩) n cq], .int .i64 0]) ∧ Tr w' q cq (mapX xs n) ∧ Below w.heap.size w w') ∨
      (¬ okX xs n ∧ e = .returned (.tuple #[.agg #[.slice none 0 0], .int .i64 3]) ∧ Below w.heap.size w w') := by
  have hz2 : ∀ a n c, [Value.slice a n c].length = 1 := fun _ _ _ => rfl
  have HN : Hid (∀ u, Calls Try.prog 9 #[.int .i64 (n : Int)] u fun e w' => ∃ q c, e = .returned (.tuple #[.agg #[.slice (some ⟨q, 0, none⟩) n c], .int .i64 0]) ∧ Tr w' q c (rl xs n 4) ∧ u.heap.size ≤ q ∧ Below u.heap.size u w') := by rw [rl_4]; exact fun u => rnew_run n h16 h512 u
  obtain ⟨b, off, ha, hc⟩ := hB.cell (by omega)
  have HCE : Hid (∀ k u, k < 64 → Below w.heap.size w u → ∃ x : Nat, u.cell? ⟨b, off + k, none⟩ = some (.int .u8 (x : Int)) ∧ x < 256 ∧ xs.getD k 0 = (x : Int)) := fun k u hk hu => by
    have h3 := hc k (by omega)
    have h4 := hB.rng (xs.getD k 0) (by simp [List.getD, show k < xs.length by omega])
    refine ⟨(xs.getD k 0).toNat, ?_, by omega, by omega⟩
    rw [hu.cell (World.block_lt_of_cell? w _ h3), h3]
    congr 2
    omega
  have hix : ∀ (k : Nat), k < 64 → ∀ u : World, (Instr.indexAt 37 (.slice a 64 c) (.int .i64 (k : Int))).run Try.prog u = .ok (.pointer (some ⟨b, off + k, none⟩)) u := fun k hk u => by
    rw [ha]; exact index_run 37 5 Try.underlying37 sizes5 elem5 b off 64 c .i64 k hk u
  have HIX : Hid _ := hix
  obtain ⟨Z2, hZ2⟩ : ∃ Z, Z = strOfNums xs := ⟨_, rfl⟩
  have HCB : Hid (∀ u, Below w.heap.size w u → (convert 37 9 (.slice a 64 c)).run Try.prog u = .ok (.string Z2) u) := fun u hu => by
    rw [hZ2]
    exact (hB.stays hu).conv 64 hl.symm 37 5 Try.underlying37 Try.underlying5 9 Try.underlying9
  obtain ⟨NX, hNX⟩ : ∃ NX, NX = bytesL (rl xs n n) := ⟨_, rfl⟩
  have HBY : Hid (∀ q cq u, Tr u q cq (rl xs n n) → Calls Try.prog 23 #[.agg #[.slice (some ⟨q, 0, none⟩) n cq]] u fun e w' => ∃ a c, e = .returned (.slice a 64 c) ∧ Bs w' a c NX ∧ Below u.heap.size u w') := fun q cq u hu => by
    have := rbytes_run u hu (by rw [rl_len]; exact h512)
    rw [rl_len] at this
    rw [hNX]; exact this
  obtain ⟨Z1, hZ1⟩ : ∃ Z, Z = strOfNums NX := ⟨_, rfl⟩
  have HCN : Hid (∀ a' c' u, slB 64 NX (.slice a' 64 c') u → (convert 37 9 (.slice a' 64 c')).run Try.prog u = .ok (.string Z1) u) := fun a' c' u hu => by
    obtain ⟨a2, c2, h5, h6⟩ := hu
    cases h5
    rw [hZ1]
    exact h6.conv 64 (by rw [hNX, bytesL_len]) 37 5 Try.underlying37 Try.underlying5 9 Try.underlying9
  have HOK : Hid (okX xs n → Z1 = Z2 ∧ rl xs n n = mapX xs n) := fun h => by
    refine ⟨?_, rl_map h (by omega) h512⟩
    rw [hZ1, hZ2, hNX, (rl_ok (by omega) h512 hl hB.rng).2 h]
  have HNO : Hid (¬ okX xs n → (Z1.toList == Z2.toList) = false) := fun h => by
    rw [hZ1, hZ2]
    refine str_unlike (by rw [hNX]; exact bytesL_rng _) hB.rng ?_
    rw [hNX]
    exact fun e => h ((rl_ok (by omega) h512 hl hB.rng).1 e)
  clear hB hl hc ha hix hZ1 hZ2 hNX
  obtain ⟨H, hH⟩ : ∃ H, H = w.heap.size := ⟨_, rfl⟩
  have HH : Hid (H = w.heap.size) := hH
  go_enter Try.func27, Try.ntmps27
  go_wp2_with (first
    | (refine wpList_alloc0 (by rfl) 29 (by rfl) (some 4) (by rfl) _ alloc_rmap ?_; intro w1 hR1 hb1 hs1)
    | (go_at_call 9; refine (HN.out _).mono ?_; rintro e w2 ⟨q, cq, rfl, hT2, hq2, hb2⟩; have hR2 := hR1.stays hb2; have hz := hb2.size)
    | (refine wpList_alloc0 (by rfl) 29 (by rfl) (some 6) (by rfl) _ alloc_rmap ?_; intro w3 hM3 hb3 hs3; have hR3 := hR2.stays hb3; have hm3 := hM3.cell 0; have hf3 := hM3.free 0))
  have hq3 := hT2.lt
  have hR4 := hR3.but ((But.refl w2.heap.size w3).setCell 0 (.slice (some ⟨q, 0, none⟩) n cq)) (by omega)
  have hM4 : Blk 29 (w3.setCell ⟨w2.heap.size, 0, none⟩ (.slice (some ⟨q, 0, none⟩) n cq)) w2.heap.size [.slice (some ⟨q, 0, none⟩) n cq] := hM3.set 0 _
  have hT4 := (hT2.stays hb3).but ((But.refl w2.heap.size w3).setCell 0 (.slice (some ⟨q, 0, none⟩) n cq)) (by omega)
  have hX4 : Below w.heap.size w (w3.setCell ⟨w2.heap.size, 0, none⟩ (.slice (some ⟨q, 0, none⟩) n cq)) := ((hb1.trans (hb2.mono (by omega))).trans (hb3.mono (by omega))).setCell (by simp; omega) _
  have HQH : Hid (H < q ∧ q < w2.heap.size) := ⟨by omega, hq3⟩
  rw [← hH] at hR4 hX4 ⊢
  obtain ⟨M, hM⟩ : ∃ M, M = w2.heap.size := ⟨_, rfl⟩
  obtain ⟨W4, hW4⟩ : ∃ W4, W4 = w3.setCell ⟨w2.heap.size, 0, none⟩ (.slice (some ⟨q, 0, none⟩) n cq) := ⟨_, rfl⟩
  rw [← hW4] at hR4 hM4 hT4 hX4 ⊢
  rw [← hM] at hM4 HQH ⊢
  clear hW4 hM hR1 hb1 hs1 hT2 hq2 hb2 hR2 hz hM3 hb3 hs3 hR3 hm3 hf3 hq3 hH
  go_loopw [8] (fun x wr => ∃ i : Nat, 4 ≤ i ∧ i ≤ n ∧ x = .int .i64 i ∧ Tr wr q cq (rl xs n i) ∧ Blk 29 wr M [.slice (some ⟨q, 0, none⟩) n cq] ∧ Blk 29 wr H [.slice none 0 0] ∧ Below H w wr) (fun x _ => n - (intOf x).toNat)
  case atStart => exact ⟨4, by omega, by omega, rfl, hT4, hM4, hR4, hX4⟩
  case round =>
    rename_i hrel
    obtain ⟨k, h4, hk, rfl, hT, hM, hR, hbr⟩ := hrel
    clear hT4 hM4 hR4 hX4
    have hm0 := hM.cell 0
    by_cases hlt : k < n
    · obtain ⟨x, hcx, hxl, hxe⟩ := HCE.out (k / 8) wr (by omega) (by rw [← HH.out]; exact hbr)
      have hbx := bit_and x hxl k
      have hbe : bitX xs k = x.testBit (k % 8) := by unfold bitX; rw [hxe]; rfl
      rw [← hbe] at hbx
      have hix := HIX.out (k / 8) (by omega)
      rw [show (((k / 8 : Nat)) : Int) = (k : Int) / 8 by omega] at hix
      have hix2 := index_tr q n cq k hlt .i64
      have hck := hT.cell k (by rw [rl_len]; exact hlt)
      have hfr := hT.free k
      have hT3 := hT.set k (by rw [rl_len]; exact hlt) (bitX xs k)
      rw [rl_next xs n k hlt h4] at hT3
      obtain ⟨bv, hbv⟩ : ∃ bv, bv = bitX xs k := ⟨_, rfl⟩
      rw [← hbv] at hT3 hbx
      have hbb : (bits .and .u8 ((x : Int) / 2 ^ (k % 8)) 1 == 1) = bv := by rw [hbx]; cases bv <;> rfl
      have HT3 : Hid _ := hT3
      have HM3 : Hid (Blk 29 (wr.setCell ⟨q, k, none⟩ (.bool bv)) M [.slice (some ⟨q, 0, none⟩) n cq]) := hM.but ((But.refl q wr).setCell k (.bool bv)) (by have := HQH.out; omega)
      have HR3 : Hid (Blk 29 (wr.setCell ⟨q, k, none⟩ (.bool bv)) H [.slice none 0 0]) := hR.but ((But.refl q wr).setCell k (.bool bv)) (by have := HQH.out; omega)
      have HX3 : Hid (Below H w (wr.setCell ⟨q, k, none⟩ (.bool bv))) := hbr.setCell (by have := HQH.out; simp; omega) _
      clear hbe hxe hT3 hbv hbx hT hM hR hbr
      have hmn : min (k % 8) 8 = k % 8 := Nat.min_eq_left (by omega)
      have hw1 : IntKind.i64.wrap ((k : Int) / 8) = (k : Int) / 8 := by simp [IntKind.wrap, IntKind.bits, IntKind.signed]; omega
      have hw2 : IntKind.u64.wrap ((k : Int) % 8) = (k : Int) % 8 := by simp [IntKind.wrap, IntKind.bits, IntKind.signed]; omega
      have hw3 : IntKind.i64.wrap ((k : Int) % 8) = (k : Int) % 8 := by simp [IntKind.wrap, IntKind.bits, IntKind.signed]; omega
      go_wp2
      go_still_tail 15, (by kernel_rfl)
      go_wp2
      go_roundw
      case rel => exact ⟨k + 1, by omega, by omega, by go_num, HT3.out, HM3.out, HR3.out, HX3.out.drew⟩
      case measure => simp [intOf]; omega
    · have hkn : k = n := by omega
      subst hkn
      have hrs : H ≤ wr.heap.size := by have := HH.out; have := hbr.size; omega
      have HML : Hid (∀ u, Below wr.heap.size wr u → u.cell? ⟨M, 0, none⟩ = some (.slice (some ⟨q, 0, none⟩) k cq)) := fun u hu => (hM.stays hu).cell 0
      clear hm0
      by_cases hok : okX xs k
      · obtain ⟨hzz, hmx⟩ := HOK.out hok
        subst hzz
        have HMX : Hid (rl xs k k = mapX xs k) := hmx
        clear hmx HNO HOK
        go_wp2
        refine Up.wp_region_up (Up.tell [(1, slB 64 NX)]) (by kernel_rfl) (by kernel_rfl) (Up.tell_steady _ (by
          intro p hp
          simp only [List.mem_cons, List.not_mem_nil, or_false] at hp
          rcases hp with rfl
          exact slB_steady _ _)) ?_
        apply Up.wpUp_pure
        case hw => rfl
        case hψ => rfl
        case hv => (intro w1 hp; have hq2 := HML.out w1 hp.1; clear hp; go_simp; try (with_reducible rfl))
        simp only [Act.put, List.setIfInBounds_toArray, List.set_cons_zero, List.set_cons_succ]
        refine Up.wpUp_call _ 23 #[.agg #[.slice (some ⟨q, 0, none⟩) k cq]] (by rfl) (by rfl) (fun w1 => by go_simp) (fun w1 hp => calls_slB (HBY.out q cq w1 (hT.stays hp.1))) ?_
        rintro v ⟨u, _, hf⟩
        obtain ⟨a', c', rfl, _⟩ := hf 1 v _ rfl rfl
        clear hf
        simp only [Act.put, List.setIfInBounds_toArray, List.set_cons_zero, List.set_cons_succ]
        repeat (first
          | (refine Up.wpUp_pass (by rfl) ?_; simp only [Act.put, List.setIfInBounds_toArray, List.set_cons_zero, List.set_cons_succ])
          | (apply Up.wpUp_pure
             case hw => rfl
             case hψ => rfl
             case hv => (intro w1 hp; clear hp; go_simp; try (with_reducible rfl))
             simp only [Act.put, List.setIfInBounds_toArray, List.set_cons_zero, List.set_cons_succ])
          | (apply Up.wpUp_pure
             case hw => rfl
             case hψ => rfl
             case hv => (intro w1 hp; have hq2 := HCB.out w1 (by rw [← HH.out]; exact hbr.trans (hp.1.mono hrs)); clear hp; go_simp; try (with_reducible rfl))
             simp only [Act.put, List.setIfInBounds_toArray, List.set_cons_zero, List.set_cons_succ])
          | (apply Up.wpUp_pure
             case hw => rfl
             case hψ => rfl
             case hv => (intro w1 hp; have hq3 := HCN.out _ _ _ (hp.2 1 _ _ rfl rfl rfl); clear hp; go_simp; try (with_reducible rfl))
             simp only [Act.put, List.setIfInBounds_toArray, List.set_cons_zero, List.set_cons_succ]))
        refine Up.wpUp_end ?_
        intro w5 hb5 _
        have hR5 := hR.stays hb5
        have hM5 := hM.stays hb5
        have hT5 := hT.stays hb5
        have hm5 := hM5.cell 0
        have hr5 := hR5.cell 0
        have hf5 := hR5.free 0
        have hX5 := hbr.trans (hb5.mono hrs)
        go_wp2
        refine bodyPost_ret_blk2 rfl rfl (by rfl) (by rfl) agg_rmap size_rmap (hR5.set 0 _) (hz2 _ _ _) (.inl ⟨hok, _, _, rfl, ?_, ?_⟩)
        · rw [← HMX.out]
          exact hT5.but ((But.refl H w5).setCell 0 _) (by have := HQH.out; omega)
        · rw [← HH.out]
          exact hX5.setCell (by simp) _
      · have hzz := HNO.out hok
        clear HNO HOK
        go_wp2
        refine Up.wp_region_up (Up.tell [(1, slB 64 NX)]) (by kernel_rfl) (by kernel_rfl) (Up.tell_steady _ (by
          intro p hp
          simp only [List.mem_cons, List.not_mem_nil, or_false] at hp
          rcases hp with rfl
          exact slB_steady _ _)) ?_
        apply Up.wpUp_pure
        case hw => rfl
        case hψ => rfl
        case hv => (intro w1 hp; have hq2 := HML.out w1 hp.1; clear hp; go_simp; try (with_reducible rfl))
        simp only [Act.put, List.setIfInBounds_toArray, List.set_cons_zero, List.set_cons_succ]
        refine Up.wpUp_call _ 23 #[.agg #[.slice (some ⟨q, 0, none⟩) k cq]] (by rfl) (by rfl) (fun w1 => by go_simp) (fun w1 hp => calls_slB (HBY.out q cq w1 (hT.stays hp.1))) ?_
        rintro v ⟨u, _, hf⟩
        obtain ⟨a', c', rfl, _⟩ := hf 1 v _ rfl rfl
        clear hf
        simp only [Act.put, List.setIfInBounds_toArray, List.set_cons_zero, List.set_cons_succ]
        repeat (first
          | (refine Up.wpUp_pass (by rfl) ?_; simp only [Act.put, List.setIfInBounds_toArray, List.set_cons_zero, List.set_cons_succ])
          | (apply Up.wpUp_pure
             case hw => rfl
             case hψ => rfl
             case hv => (intro w1 hp; clear hp; go_simp; try (with_reducible rfl))
             simp only [Act.put, List.setIfInBounds_toArray, List.set_cons_zero, List.set_cons_succ])
          | (apply Up.wpUp_pure
             case hw => rfl
             case hψ => rfl
             case hv => (intro w1 hp; have hq2 := HCB.out w1 (by rw [← HH.out]; exact hbr.trans (hp.1.mono hrs)); clear hp; go_simp; try (with_reducible rfl))
             simp only [Act.put, List.setIfInBounds_toArray, List.set_cons_zero, List.set_cons_succ])
          | (apply Up.wpUp_pure
             case hw => rfl
             case hψ => rfl
             case hv => (intro w1 hp; have hq3 := HCN.out _ _ _ (hp.2 1 _ _ rfl rfl rfl); clear hp; go_simp; try (with_reducible rfl))
             simp only [Act.put, List.setIfInBounds_toArray, List.set_cons_zero, List.set_cons_succ]))
        refine Up.wpUp_end ?_
        intro w5 hb5 _
        have hR5 := hR.stays hb5
        have hM5 := hM.stays hb5
        have hT5 := hT.stays hb5
        have hm5 := hM5.cell 0
        have hr5 := hR5.cell 0
        have hf5 := hR5.free 0
        have hX5 := hbr.trans (hb5.mono hrs)
        go_wp2_with (refine wpList_build0 (by rfl) 29 (by rfl) _ build_rmap0 ?_)
        refine bodyPost_ret_blk2 rfl rfl (by rfl) (by rfl) agg_rmap size_rmap (hR5.set 0 _) (hz2 _ _ _) (.inr ⟨hok, rfl, ?_⟩)
        rw [← HH.out]
        exact hX5.setCell (by simp) _

/-- What the document's Load tells. -/
theorem rload_run (n : Nat) (h16 : 16 ≤ n) (h512 : n ≤ 512) (a : Option Addr) (c : Nat) (xs : List Int) (w : World) (hB : Bs w a c xs) :
    Calls Try.prog 27 #[.slice a xs.length c, .int .i64 (n : Int)] w fun e w' =>
      ((xs.length = 64 ∧ okX xs n) ∧ ∃ q cq, e = .returned (.tuple #[.agg #[.slice (some ⟨q, 0, none⟩) n cq], .int .i64 0]) ∧ Tr w' q cq (mapX xs n) ∧ Below w.heap.size w w') ∨
      (¬ (xs.length = 64 ∧ okX xs n) ∧ e = .returned (.tuple #[.agg #[.slice none 0 0], .int .i64 3]) ∧ Below w.heap.size w w') := by
  by_cases hl : xs.length = 64
  · rw [hl]
    refine (rload_walk n h16 h512 a c xs w hB hl).mono ?_
    rintro e w' (⟨h3, h4⟩ | ⟨h3, h4⟩)
    · exact .inl ⟨⟨rfl, h3⟩, h4⟩
    · exact .inr ⟨fun h => h3 h.2, h4⟩
  · refine (rload_len n h16 h512 a xs.length c hl w).mono ?_
    rintro e w' ⟨h3, h4⟩
    exact .inr ⟨fun h => hl h.1, h3, h4⟩
end Go.Proofs.Ytfmfjaokpnadaaa
