/-
  The walk of the law SpaceLoad.
-/
import Derived.Test.YtfmfjaokpnadaaaSpAlive
import Derived.Test.YtfmfjaokpnadaaaSpRefL
namespace Go.Proofs.Ytfmfjaokpnadaaa
set_option linter.unusedSimpArgs false
set_option linter.unusedVariables false
open Go.RowKit

set_option maxRecDepth 100000 in
theorem load_long (n : Int) (a : Option Addr) (m c : Nat) (hm : 80 < m) (hb : m ≤ 9223372036854775807) (w : World) : Calls Try.prog 4 #[.slice a m c, .int .i64 n] w fun e w' => e = .returned (.bool true) ∧ Below w.heap.size w w' := by
  go_enter Try.func4, Try.ntmps4
  go_wp2_with (go_at_call 25; refine (alive_run _).mono ?_; rintro e w3 ⟨rfl, hb3⟩)
  go_ret
  exact ⟨rfl, hb3⟩

set_option maxRecDepth 100000 in
set_option maxHeartbeats 8000000 in
theorem load_law (n : Int) (a : Option Addr) (c : Nat) (xs : List Int) (w : World) (hB : Bs w a c xs) (hm : xs.length ≤ 80) : Calls Try.prog 4 #[.slice a xs.length c, .int .i64 n] w fun e w' => e = .returned (.bool true) ∧ Below w.heap.size w w' := by
  obtain ⟨ti, ht0, ht1, ht2, ht3⟩ := info_parts (P := Try.prog) (e := 5) (z := .int .u8 0) (size := 1) (bytes := 1) (by kernel_rfl)
  obtain ⟨m, hme⟩ : ∃ m, m = xs.length := ⟨_, rfl⟩
  have hrng := hB.rng
  obtain ⟨Z, hZ⟩ : ∃ Z, Z = strOfNums xs := ⟨_, rfl⟩
  have HCN : Hid (∀ a' c' u, slB m xs (.slice a' m c') u → (convert 37 9 (.slice a' m c')).run Try.prog u = .ok (.string Z) u) := fun a' c' u hu => by
    obtain ⟨a2, c2, h5, h6⟩ := hu
    cases h5
    rw [hZ]
    exact h6.conv m hme 37 5 Try.underlying37 Try.underlying5 9 Try.underlying9
  have HBS : Hid (∀ u, Below w.heap.size w u → Bs u a c xs) := fun u hu => hB.stays hu
  have HAL : Hid (∀ u, Calls Try.prog 25 #[] u fun e w' => e = .returned (.bool true) ∧ Below u.heap.size u w') := alive_run
  have hz2 : ∀ a n c, [Value.slice a n c].length = 1 := fun _ _ _ => rfl
  have HOWN : Hid (∀ u : World, (u.alloc (.cells #[] 5)).ownsRow u.heap.size 5 1 (.slice (some ⟨u.heap.size, 0, none⟩) 0 0) ([] : List Int).length (([] : List Int).map (Value.int .u8))) := fun u =>
    ⟨by simp, .inr ⟨u.heap.size, 0, #[], rfl, Nat.le_refl _, Blk.newAt (vs := []) rfl rfl, Nat.le_refl _, by decide, by simp, by simp⟩⟩
  have HOBS : Hid (∀ (B : Nat) u v, u.ownsRow B 5 1 v ([] ++ xs).length (([] ++ xs).map (Value.int .u8)) → ∃ ao co, v = .slice ao m co ∧ Bs u ao co xs) := fun B u v hv => by
    obtain ⟨ao, co, h1, h2⟩ := Bs.of_owns hv (by simpa using hrng)
    rw [List.nil_append, ← hme] at h1
    exact ⟨ao, co, h1, by simpa using h2⟩
  have HM : Hid (m = xs.length) := hme
  have hml : m ≤ 80 := by omega
  rw [← hme]
  clear hme hrng hZ hm
  have HSM : Hid (([] : List Int).length + xs.length ≤ 140737488355328) := by have := HM.out; show _ ≤ _; simp; omega
  have HBW : Hid (w.heap.size ≤ (w.alloc (.cells #[] 5)).heap.size) := by show _ ≤ _; simp
  by_cases hn : 16 ≤ n ∧ n ≤ 512
  · obtain ⟨n, rfl⟩ : ∃ k : Nat, n = (k : Int) := ⟨n.toNat, by omega⟩
    obtain ⟨h16, h512⟩ : 16 ≤ n ∧ n ≤ 512 := by omega
    clear hn
    by_cases hok : xs.length = 64 ∧ okX xs n
    · have hm64 : m = 64 := by rw [HM.out, hok.1]
      subst hm64
      obtain ⟨L, hL⟩ : ∃ L, L = mapX xs n := ⟨_, rfl⟩
      have hLl : L.length = n := by rw [hL, mapX_len]
      have hLb : bytesL L = xs := by rw [hL]; exact map_bytes hok.2 h512 hok.1 hB.rng
      have HLD : Hid (∀ u ao co, Bs u ao co xs → Calls Try.prog 26 #[.slice ao 64 co, .int .i64 (n : Int)] u fun e w' => e = .returned (.tuple #[.pointer (some ⟨u.heap.size, 0, none⟩), .int .i64 0]) ∧ Mp w' u.heap.size L ∧ Below u.heap.size u w') := fun u ao co hu => by
        refine (load_walk n h16 h512 ao co xs u hu hok.1).mono ?_
        rintro e w' (⟨h3, h4, h5, h6⟩ | ⟨h3, _⟩)
        · rw [hL]; exact ⟨h4, h5, h6⟩
        · exact absurd hok.2 h3
      have HRL : Hid (∀ u, Below w.heap.size w u → Calls Try.prog 27 #[.slice a 64 c, .int .i64 (n : Int)] u fun e w' => ∃ q cq, e = .returned (.tuple #[.agg #[.slice (some ⟨q, 0, none⟩) n cq], .int .i64 0]) ∧ Tr w' q cq L ∧ Below u.heap.size u w') := fun u hu => by
        refine (rload_walk n h16 h512 a c xs u (HBS.out u hu) hok.1).mono ?_
        rintro e w' (⟨h3, h4⟩ | ⟨h3, _⟩)
        · rw [hL]; exact h4
        · exact absurd hok.2 h3
      obtain ⟨F, hF⟩ : ∃ F, F = freeN L := ⟨_, rfl⟩
      have HBY : Hid (∀ u g, Mp u g L → Calls Try.prog 11 #[.pointer (some ⟨g, 0, none⟩)] u fun e w' => ∃ a c, e = .returned (.slice a 64 c) ∧ Bs w' a c xs ∧ Below u.heap.size u w') := fun u g hu => by
        refine (bytes_run u hu).mono ?_
        rintro e w' ⟨h1, h2, h3⟩
        have hb := h2.bs (bytesL_rng L) (by rw [bytesL_len]; decide)
        rw [bytesL_len, hLb] at hb
        exact ⟨_, 64, h1, hb, h3⟩
      have HLN : Hid (∀ u g, Mp u g L → Calls Try.prog 24 #[.pointer (some ⟨g, 0, none⟩)] u fun e w' => e = .returned (.int .i64 (n : Int)) ∧ Below u.heap.size u w') := fun u g hu => by
        refine (len_run u hu).mono ?_
        rintro e w' ⟨h1, rfl⟩
        rw [hLl] at h1
        exact ⟨h1, Below.refl _ _⟩
      have HFR : Hid (∀ u g, Mp u g L → Calls Try.prog 21 #[.pointer (some ⟨g, 0, none⟩)] u fun e w' => e = .returned (.int .i64 (F : Int)) ∧ Below u.heap.size u w') := fun u g hu => by
        refine (free_run u hu).mono ?_
        rintro e w' ⟨h1, rfl⟩
        rw [← hF] at h1
        exact ⟨h1, Below.refl _ _⟩
      have HRF : Hid (∀ u q cq, Tr u q cq L → Calls Try.prog 22 #[.agg #[.slice (some ⟨q, 0, none⟩) n cq]] u fun e w' => e = .returned (.int .i64 (F : Int)) ∧ Below u.heap.size u w') := fun u q cq hu => by
        have := rfree_run u hu (by omega)
        rw [hLl, ← hF] at this
        exact this
      clear hok hL hLl hLb hF hB
      go_enter Try.func4, Try.ntmps4
      go_wp2_with (first
        | (at_builtin; refine wpList_append_bytes (by rfl) (.tmp 14) (.tmp 15) 37 (by rfl) w.heap.size 5 ti Try.underlying37 ht0 ht1 ht2 ht3 _ [] (by rfl) (HOWN.out w) a 64 c xs (by rfl) HM.out (HBS.out _ ((Below.refl _ _).alloc (Nat.le_refl _) _)) HSM.out HBW.out ((Below.refl _ w).alloc (Nat.le_refl _) _) ?_
           intro v1 w1 hO1 hb1; obtain ⟨ao, co, hv1, hO⟩ := HOBS.out _ _ _ hO1; rw [hv1]; clear hv1 hO1)
        | (go_at_call 26; refine (HLD.out _ _ _ hO).mono ?_; rintro e w2 ⟨rfl, hP2, hb2⟩; have hO2 := hO.stays hb2; have hX2 := hb1.trans (hb2.mono hb1.size))
        | (go_at_call 27; refine (HRL.out w2 hX2).mono ?_; rintro e w3 ⟨q, cq, rfl, hT3, hb3⟩; have hO3 := hO2.stays hb3; have hX3 := hX2.trans (hb3.mono hX2.size))
        | (refine wpList_alloc0 (by rfl) 29 (by rfl) (some 8) (by rfl) _ alloc_rmap ?_; intro w4 hM4 hb4 hs4; have hm4 := hM4.cell 0; have hf4 := hM4.free 0
           have hX5 : Below w3.heap.size w3 (w4.setCell ⟨w3.heap.size, 0, none⟩ (.slice (some ⟨q, 0, none⟩) n cq)) := hb4.setCell (by simp) _
           have hO5 := HCN.out ao co _ ⟨_, _, rfl, hO3.stays hX5⟩
           have hA5 := HCN.out a c _ ⟨_, _, rfl, (HBS.out w3 hX3).stays hX5⟩))
      have hM5 : Blk 29 (w4.setCell ⟨w3.heap.size, 0, none⟩ (.slice (some ⟨q, 0, none⟩) n cq)) w3.heap.size [(.slice (some ⟨q, 0, none⟩) n cq)] := hM4.set 0 _
      have hX6 : Below w.heap.size w (w4.setCell ⟨w3.heap.size, 0, none⟩ (.slice (some ⟨q, 0, none⟩) n cq)) := hX3.trans (hX5.mono hX3.size)
      obtain ⟨W5, hW5⟩ : ∃ W5, W5 = w4.setCell ⟨w3.heap.size, 0, none⟩ (.slice (some ⟨q, 0, none⟩) n cq) := ⟨_, rfl⟩
      rw [← hW5] at hM5 hX5 hX6 ⊢
      have hP5 : Mp W5 w1.heap.size L := (hP2.stays hb3).stays hX5
      have hT5 : Tr W5 q cq L := hT3.stays hX5
      have HA5 : Hid (∀ u, Below W5.heap.size W5 u → (convert 37 9 (.slice a 64 c)).run Try.prog u = .ok (.string Z) u) := fun u hu => HCN.out a c u ⟨_, _, rfl, (HBS.out W5 hX6).stays hu⟩
      have HM5 : Hid (∀ u, Below W5.heap.size W5 u → u.cell? ⟨w3.heap.size, 0, none⟩ = some (.slice (some ⟨q, 0, none⟩) n cq)) := fun u hu => (hM5.stays hu).cell 0
      clear hW5 hm4 hf4 hO5 hA5 hM4 hb4 hs4 hO hO2 hO3 hP2 hT3 hM5
      refine Up.wp_region_up (Up.tell [(0, isV (.bool true)), (6, slB 64 xs), (13, isV (.int .i64 (n : Int))), (19, isV (.int .i64 (F : Int))), (21, isV (.int .i64 (F : Int)))]) (by kernel_rfl) (by kernel_rfl) (Up.tell_steady _ (by
        intro p hp
        simp only [List.mem_cons, List.not_mem_nil, or_false] at hp
        rcases hp with rfl | rfl | rfl | rfl | rfl <;> first | exact isV_steady _ | exact slB_steady _ _)) ?_
      refine Up.wpUp_call _ 25 #[] (by rfl) (by rfl) (fun wz => by go_simp) (fun wz hp => calls_isV (HAL.out wz)) ?_
      rintro v ⟨u, _, hf⟩
      obtain rfl := hf 0 v _ rfl rfl
      clear hf
      simp only [Act.put, List.setIfInBounds_toArray, List.set_cons_zero, List.set_cons_succ]
      repeat (first
        | (refine Up.wpUp_pass (by rfl) ?_; simp only [Act.put, List.setIfInBounds_toArray, List.set_cons_zero, List.set_cons_succ])
        | (apply Up.wpUp_pure
           case hw => rfl
           case hψ => rfl
           case hv => (intro w1 hp; clear hp; go_simp; try (with_reducible rfl))
           simp only [Act.put, List.setIfInBounds_toArray, List.set_cons_zero, List.set_cons_succ]))
      refine Up.wpUp_call _ 11 #[.pointer (some ⟨w1.heap.size, 0, none⟩)] (by rfl) (by rfl) (fun wz => by go_simp) (fun wz hp => calls_slB (HBY.out wz _ (hP5.stays hp.1))) ?_
      rintro v ⟨u, _, hf⟩
      obtain ⟨a7, c7, rfl, _⟩ := hf 6 v _ rfl rfl
      clear hf
      simp only [Act.put, List.setIfInBounds_toArray, List.set_cons_zero, List.set_cons_succ]
      repeat (first
        | (refine Up.wpUp_pass (by rfl) ?_; simp only [Act.put, List.setIfInBounds_toArray, List.set_cons_zero, List.set_cons_succ])
        | (apply Up.wpUp_pure
           case hw => rfl
           case hψ => rfl
           case hv => (intro w1 hp; clear hp; go_simp; try (with_reducible rfl))
           simp only [Act.put, List.setIfInBounds_toArray, List.set_cons_zero, List.set_cons_succ])
        | (apply Up.wpUp_pure
           case hw => rfl
           case hψ => rfl
           case hv => (intro w1 hp; have hq3 := HCN.out _ _ _ (hp.2 6 _ _ rfl rfl rfl); clear hp; go_simp; try (with_reducible rfl))
           simp only [Act.put, List.setIfInBounds_toArray, List.set_cons_zero, List.set_cons_succ])
        | (apply Up.wpUp_pure
           case hw => rfl
           case hψ => rfl
           case hv => (intro w1 hp; have hq4 := HA5.out _ hp.1; clear hp; go_simp; try (with_reducible rfl))
           simp only [Act.put, List.setIfInBounds_toArray, List.set_cons_zero, List.set_cons_succ]))
      refine Up.wpUp_call _ 24 #[.pointer (some ⟨w1.heap.size, 0, none⟩)] (by rfl) (by rfl) (fun wz => by go_simp) (fun wz hp => calls_isV (HLN.out wz _ (hP5.stays hp.1))) ?_
      rintro v ⟨u, _, hf⟩
      obtain rfl := hf 13 v _ rfl rfl
      clear hf
      simp only [Act.put, List.setIfInBounds_toArray, List.set_cons_zero, List.set_cons_succ]
      repeat (first
        | (refine Up.wpUp_pass (by rfl) ?_; simp only [Act.put, List.setIfInBounds_toArray, List.set_cons_zero, List.set_cons_succ])
        | (apply Up.wpUp_pure
           case hw => rfl
           case hψ => rfl
           case hv => (intro w1 hp; clear hp; go_simp; try (with_reducible rfl))
           simp only [Act.put, List.setIfInBounds_toArray, List.set_cons_zero, List.set_cons_succ]))
      refine Up.wpUp_call _ 21 #[.pointer (some ⟨w1.heap.size, 0, none⟩)] (by rfl) (by rfl) (fun wz => by go_simp) (fun wz hp => calls_isV (HFR.out wz _ (hP5.stays hp.1))) ?_
      rintro v ⟨u, _, hf⟩
      obtain rfl := hf 19 v _ rfl rfl
      clear hf
      simp only [Act.put, List.setIfInBounds_toArray, List.set_cons_zero, List.set_cons_succ]
      repeat (first
        | (refine Up.wpUp_pass (by rfl) ?_; simp only [Act.put, List.setIfInBounds_toArray, List.set_cons_zero, List.set_cons_succ])
        | (apply Up.wpUp_pure
           case hw => rfl
           case hψ => rfl
           case hv => (intro w1 hp; clear hp; go_simp; try (with_reducible rfl))
           simp only [Act.put, List.setIfInBounds_toArray, List.set_cons_zero, List.set_cons_succ])
        | (apply Up.wpUp_pure
           case hw => rfl
           case hψ => rfl
           case hv => (intro w1 hp; have hq5 := HM5.out _ hp.1; clear hp; go_simp; try (with_reducible rfl))
           simp only [Act.put, List.setIfInBounds_toArray, List.set_cons_zero, List.set_cons_succ]))
      refine Up.wpUp_call _ 22 #[.agg #[.slice (some ⟨q, 0, none⟩) n cq]] (by rfl) (by rfl) (fun wz => by go_simp) (fun wz hp => calls_isV (HRF.out wz q cq (hT5.stays hp.1))) ?_
      rintro v ⟨u, _, hf⟩
      obtain rfl := hf 21 v _ rfl rfl
      clear hf
      simp only [Act.put, List.setIfInBounds_toArray, List.set_cons_zero, List.set_cons_succ]
      repeat (first
        | (refine Up.wpUp_pass (by rfl) ?_; simp only [Act.put, List.setIfInBounds_toArray, List.set_cons_zero, List.set_cons_succ])
        | (apply Up.wpUp_pure
           case hw => rfl
           case hψ => rfl
           case hv => (intro w1 hp; clear hp; go_simp; try (with_reducible rfl))
           simp only [Act.put, List.setIfInBounds_toArray, List.set_cons_zero, List.set_cons_succ]))
      refine Up.wpUp_end ?_
      intro w6 hb6 _
      go_wp2
      go_ret
      exact ⟨rfl, hX6.trans (hb6.mono hX6.size)⟩
    · have HLD : Hid (∀ u ao co, Bs u ao co xs → Calls Try.prog 26 #[.slice ao m co, .int .i64 (n : Int)] u fun e w' => e = .returned (.tuple #[.pointer none, .int .i64 3]) ∧ Below u.heap.size u w') := fun u ao co hu => by
        have := load_run n h16 h512 ao co xs u hu
        rw [← HM.out] at this
        refine this.mono ?_
        rintro e w' (⟨h2, h3, _⟩ | ⟨h3, h4⟩)
        · exact absurd ⟨HM.out ▸ h2, h3⟩ hok
        · exact h4
      have HRL : Hid (∀ u, Below w.heap.size w u → Calls Try.prog 27 #[.slice a m c, .int .i64 (n : Int)] u fun e w' => e = .returned (.tuple #[.agg #[.slice none 0 0], .int .i64 3]) ∧ Below u.heap.size u w') := fun u hu => by
        have := rload_run n h16 h512 a c xs u (HBS.out u hu)
        rw [← HM.out] at this
        refine this.mono ?_
        rintro e w' (⟨⟨h2, h3⟩, _⟩ | ⟨h3, h4⟩)
        · exact absurd ⟨HM.out ▸ h2, h3⟩ hok
        · exact h4
      clear hok hB
      go_enter Try.func4, Try.ntmps4
      go_wp2_with (first
        | (at_builtin; refine wpList_append_bytes (by rfl) (.tmp 14) (.tmp 15) 37 (by rfl) w.heap.size 5 ti Try.underlying37 ht0 ht1 ht2 ht3 _ [] (by rfl) (HOWN.out w) a m c xs (by rfl) HM.out (HBS.out _ ((Below.refl _ _).alloc (Nat.le_refl _) _)) HSM.out HBW.out ((Below.refl _ w).alloc (Nat.le_refl _) _) ?_
           intro v1 w1 hO1 hb1; obtain ⟨ao, co, hv1, hO⟩ := HOBS.out _ _ _ hO1; rw [hv1]; clear hv1 hO1)
        | (go_at_call 26; refine (HLD.out _ _ _ hO).mono ?_; rintro e w2 ⟨rfl, hb2⟩; have hO2 := hO.stays hb2; have hX2 := hb1.trans (hb2.mono hb1.size))
        | (go_at_call 27; refine (HRL.out w2 hX2).mono ?_; rintro e w3 ⟨rfl, hb3⟩; have hO3 := hO2.stays hb3; have hX3 := hX2.trans (hb3.mono hX2.size))
        | (refine wpList_alloc0 (by rfl) 29 (by rfl) (some 8) (by rfl) _ alloc_rmap ?_; intro w4 hM4 hb4 hs4; have hm4 := hM4.cell 0; have hf4 := hM4.free 0
           have hX5 : Below w3.heap.size w3 (w4.setCell ⟨w3.heap.size, 0, none⟩ (.slice none 0 0)) := hb4.setCell (by simp) _
           have hO5 := HCN.out ao co _ ⟨_, _, rfl, hO3.stays hX5⟩
           have hA5 := HCN.out a c _ ⟨_, _, rfl, (HBS.out w3 hX3).stays hX5⟩))
      have hM5 : Blk 29 (w4.setCell ⟨w3.heap.size, 0, none⟩ (.slice none 0 0)) w3.heap.size [(.slice none 0 0)] := hM4.set 0 _
      have hX6 : Below w.heap.size w (w4.setCell ⟨w3.heap.size, 0, none⟩ (.slice none 0 0)) := hX3.trans (hX5.mono hX3.size)
      obtain ⟨W5, hW5⟩ : ∃ W5, W5 = w4.setCell ⟨w3.heap.size, 0, none⟩ (.slice none 0 0) := ⟨_, rfl⟩
      rw [← hW5] at hM5 hX5 hX6 ⊢
      clear hW5 hm4 hf4 hO5 hA5 hM4 hb4 hs4 hO hO2 hO3
      refine Up.wp_region_up (Up.tell [(0, isV (.bool true))]) (by kernel_rfl) (by kernel_rfl) (Up.tell_steady _ (by
        intro p hp
        simp only [List.mem_cons, List.not_mem_nil, or_false] at hp
        rcases hp with rfl
        exact isV_steady _)) ?_
      refine Up.wpUp_call _ 25 #[] (by rfl) (by rfl) (fun w1 => by go_simp) (fun w1 hp => calls_isV (HAL.out w1)) ?_
      rintro v ⟨u, _, hf⟩
      obtain rfl := hf 0 v _ rfl rfl
      clear hf
      simp only [Act.put, List.setIfInBounds_toArray, List.set_cons_zero, List.set_cons_succ]
      repeat (first
        | (refine Up.wpUp_pass (by rfl) ?_; simp only [Act.put, List.setIfInBounds_toArray, List.set_cons_zero, List.set_cons_succ])
        | (apply Up.wpUp_pure
           case hw => rfl
           case hψ => rfl
           case hv => (intro w1 hp; clear hp; go_simp; try (with_reducible rfl))
           simp only [Act.put, List.setIfInBounds_toArray, List.set_cons_zero, List.set_cons_succ]))
      refine Up.wpUp_end ?_
      intro w6 hb6 _
      go_wp2
      go_ret
      exact ⟨rfl, hX6.trans (hb6.mono hX6.size)⟩
  · have HLD : Hid (∀ u ao co, Bs u ao co xs → Calls Try.prog 26 #[.slice ao m co, .int .i64 n] u fun e w' => e = .returned (.tuple #[.pointer none, .int .i64 1]) ∧ Below u.heap.size u w') := fun u ao co hu =>
      (load_bad n hn _ u).mono fun e w' ⟨h1, h2⟩ => ⟨h1, h2 ▸ Below.refl _ _⟩
    have HRL : Hid (∀ u, Below w.heap.size w u → Calls Try.prog 27 #[.slice a m c, .int .i64 n] u fun e w' => e = .returned (.tuple #[.agg #[.slice none 0 0], .int .i64 1]) ∧ Below u.heap.size u w') := fun u hu => rload_bad n hn _ u
    clear hn hB
    go_enter Try.func4, Try.ntmps4
    go_wp2_with (first
      | (at_builtin; refine wpList_append_bytes (by rfl) (.tmp 14) (.tmp 15) 37 (by rfl) w.heap.size 5 ti Try.underlying37 ht0 ht1 ht2 ht3 _ [] (by rfl) (HOWN.out w) a m c xs (by rfl) HM.out (HBS.out _ ((Below.refl _ _).alloc (Nat.le_refl _) _)) HSM.out HBW.out ((Below.refl _ w).alloc (Nat.le_refl _) _) ?_
         intro v1 w1 hO1 hb1; obtain ⟨ao, co, hv1, hO⟩ := HOBS.out _ _ _ hO1; rw [hv1]; clear hv1 hO1)
      | (go_at_call 26; refine (HLD.out _ _ _ hO).mono ?_; rintro e w2 ⟨rfl, hb2⟩; have hO2 := hO.stays hb2; have hX2 := hb1.trans (hb2.mono hb1.size))
      | (go_at_call 27; refine (HRL.out w2 hX2).mono ?_; rintro e w3 ⟨rfl, hb3⟩; have hO3 := hO2.stays hb3; have hX3 := hX2.trans (hb3.mono hX2.size))
      | (refine wpList_alloc0 (by rfl) 29 (by rfl) (some 8) (by rfl) _ alloc_rmap ?_; intro w4 hM4 hb4 hs4; have hm4 := hM4.cell 0; have hf4 := hM4.free 0
         have hX5 : Below w3.heap.size w3 (w4.setCell ⟨w3.heap.size, 0, none⟩ (.slice none 0 0)) := hb4.setCell (by simp) _
         have hO5 := HCN.out ao co _ ⟨_, _, rfl, hO3.stays hX5⟩
         have hA5 := HCN.out a c _ ⟨_, _, rfl, (HBS.out w3 hX3).stays hX5⟩))
    have hM5 : Blk 29 (w4.setCell ⟨w3.heap.size, 0, none⟩ (.slice none 0 0)) w3.heap.size [(.slice none 0 0)] := hM4.set 0 _
    have hX6 : Below w.heap.size w (w4.setCell ⟨w3.heap.size, 0, none⟩ (.slice none 0 0)) := hX3.trans (hX5.mono hX3.size)
    obtain ⟨W5, hW5⟩ : ∃ W5, W5 = w4.setCell ⟨w3.heap.size, 0, none⟩ (.slice none 0 0) := ⟨_, rfl⟩
    rw [← hW5] at hM5 hX5 hX6 ⊢
    clear hW5 hm4 hf4 hO5 hA5 hM4 hb4 hs4 hO hO2 hO3
    refine Up.wp_region_up (Up.tell [(0, isV (.bool true))]) (by kernel_rfl) (by kernel_rfl) (Up.tell_steady _ (by
      intro p hp
      simp only [List.mem_cons, List.not_mem_nil, or_false] at hp
      rcases hp with rfl
      exact isV_steady _)) ?_
    refine Up.wpUp_call _ 25 #[] (by rfl) (by rfl) (fun w1 => by go_simp) (fun w1 hp => calls_isV (HAL.out w1)) ?_
    rintro v ⟨u, _, hf⟩
    obtain rfl := hf 0 v _ rfl rfl
    clear hf
    simp only [Act.put, List.setIfInBounds_toArray, List.set_cons_zero, List.set_cons_succ]
    repeat (first
      | (refine Up.wpUp_pass (by rfl) ?_; simp only [Act.put, List.setIfInBounds_toArray, List.set_cons_zero, List.set_cons_succ])
      | (apply Up.wpUp_pure
         case hw => rfl
         case hψ => rfl
         case hv => (intro w1 hp; clear hp; go_simp; try (with_reducible rfl))
         simp only [Act.put, List.setIfInBounds_toArray, List.set_cons_zero, List.set_cons_succ]))
    refine Up.wpUp_end ?_
    intro w6 hb6 _
    go_wp2
    go_ret
    exact ⟨rfl, hX6.trans (hb6.mono hX6.size)⟩

theorem load_all (n : Int) (a : Option Addr) (c : Nat) (xs : List Int) (w : World) (hB : Bs w a c xs) : Calls Try.prog 4 #[.slice a xs.length c, .int .i64 n] w fun e w' => e = .returned (.bool true) ∧ Below w.heap.size w w' := by
  by_cases hm : xs.length ≤ 80
  · exact load_law n a c xs w hB hm
  · have h1 := hB.cap
    have h2 := hB.capm
    unfold maxLen at h2
    exact load_long n a xs.length c (by omega) (by omega) w
end Go.Proofs.Ytfmfjaokpnadaaa
