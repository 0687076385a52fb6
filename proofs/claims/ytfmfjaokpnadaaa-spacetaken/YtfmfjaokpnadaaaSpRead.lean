/-
  Package space: Free, Bytes, Copy.
-/
import Derived.Test.YtfmfjaokpnadaaaSpMap
namespace Go.Proofs.Ytfmfjaokpnadaaa
set_option linter.unusedSimpArgs false
set_option linter.unusedVariables false
open Go.RowKit

theorem sizes5 : (Try.prog.info? 5).map (·.size) = some 1 := by kernel_rfl
theorem elem5 : Try.prog.elem 37 = 5 := by kernel_rfl
theorem size_u8 (w : World) : (sizeOf 5).run Try.prog w = .ok 1 w := sizeOf_run sizes5 w
theorem sizes64 : (Try.prog.info? 61).map (·.size) = some 1 := by kernel_rfl
theorem agg_words (w : World) : (isAgg 62).run Try.prog w = .ok true w := isAgg_array Try.underlying62 w
theorem size_words (w : World) : (sizeOf 62).run Try.prog w = .ok 8 w := sizeOf_run (by kernel_rfl) w

theorem map_words (l : List Bool) : wordsV l = ((mapV l).drop 1).take 8 := by
  rw [mapV, List.drop_one, List.tail_cons, List.take_of_length_le (by rw [wordsV_len]; omega)]

section
variable {g : Nat} {l : List Bool}

theorem free_run (w : World) (h : Mp w g l) : Calls Try.prog 21 #[.pointer (some ⟨g, 0, none⟩)] w fun e w' => e = .returned (.int .i64 ((freeN l : Nat) : Int)) ∧ w' = w := by
  have h0 := h.len
  have h1 := h.hi
  obtain ⟨ws, hws⟩ : ∃ ws, ws = wordsV l := ⟨_, rfl⟩
  have hwl : ws.length = 8 := by rw [hws]; exact wordsV_len l
  have HW : Hid (ws = ((mapV l).drop 1).take 8) := by rw [hws]; exact map_words l
  have HWA : Hid (∀ k, k < 8 → ws.toArray[k]? = some (.int .u64 ((W l k : Nat) : Int))) := fun k hk => by rw [hws, List.getElem?_toArray]; exact wordsV_at l k hk
  have HFR : Hid ((l.length : Int) - (pop (64 * 8) (pack l) : Nat) = (freeN l : Nat)) := free_eq l h1
  have hbl := h.blk
  obtain ⟨F, hF⟩ : ∃ F, F = freeN l := ⟨_, rfl⟩
  obtain ⟨pc, hpc⟩ : ∃ pc : Nat → Nat, pc = fun k => pop (64 * k) (pack l) := ⟨_, rfl⟩
  have HPC : Hid (∀ k, pc (k + 1) = pc k + pop 64 (W l k)) := fun k => by rw [hpc]; exact pop_next l k
  have HPL : Hid (∀ k, pc k ≤ l.length) := fun k => by rw [hpc]; exact pop_len l _
  have HP0 : Hid (pc 0 = 0) := by rw [hpc]; rfl
  have HP8 : Hid ((l.length : Int) - (pc 8 : Nat) = F) := by rw [hpc, hF]; exact HFR.out
  rw [← hF]
  clear hws hF hpc HFR
  go_enter Try.func21, Try.ntmps21
  go_wp2_with (refine wpList_load_blk (by rfl) (.tmp 14) 62 (by rfl) g 1 8 (by rfl) agg_words size_words hbl ws HW.out hwl ?_)
  go_loopw [3, 16] (fun v i wr => ∃ k : Nat, k ≤ 8 ∧ i = .int .i64 k ∧ v = .int .i64 ((l.length : Int) - (pc k : Nat)) ∧ wr = w) (fun _ i _ => 8 - (intOf i).toNat)
  case atStart => exact ⟨0, by omega, rfl, by rw [HP0.out]; simp, rfl⟩
  case round =>
    rename_i hrel
    obtain ⟨k, hk, rfl, rfl, rfl⟩ := hrel
    have b1 := HPL.out k
    by_cases hlt : k < 8
    · have hix : ∀ u : World, (Instr.index 62 (.agg ws.toArray) (.int .i64 (k : Int))).run Try.prog u = .ok (.int .u64 ((W l k : Nat) : Int)) u := fun u => index_agg Try.underlying62 Try.underlying61 sizes64 hlt (HWA.out k hlt) .i64 u
      obtain ⟨x, hx⟩ : ∃ x, x = W l k := ⟨_, rfl⟩
      obtain ⟨y, hy⟩ : ∃ y, y = pop 64 x := ⟨_, rfl⟩
      have hxl : x < 18446744073709551616 := by rw [hx]; exact W_lt l k
      have HON : Hid (∀ u : World, Calls Try.prog 33 #[.int .u64 (x : Int)] u fun e w' => e = .returned (.int .i64 (y : Int)) ∧ w' = u) := fun u => by rw [hy]; exact ones_run x hxl u
      have HY : Hid (pc (k + 1) = pc k + y) := by show _ = _; rw [hy, hx]; exact HPC.out k
      have b2 : pc k + y ≤ l.length := by rw [← HY.out]; exact HPL.out (k + 1)
      rw [← hx] at hix
      clear hx hy
      obtain ⟨p, hp⟩ : ∃ p, p = pc k := ⟨_, rfl⟩
      rw [← hp] at b1 b2 ⊢
      have HP : Hid (p = pc k) := hp
      clear hp
      go_wp2_with (go_at_call 33; refine (HON.out _).mono ?_; rintro e w' ⟨rfl, rfl⟩)
      go_roundw
      case rel => exact ⟨k + 1, by omega, by go_num, by rw [HY.out, ← HP.out]; go_num, trivial⟩
      case measure => simp [intOf]; omega
    · have hk8 : k = 8 := by omega
      subst hk8
      rw [HP8.out]
      go_wp2
      go_ret
      exact ⟨rfl, rfl⟩

theorem free_nil (w : World) : Calls Try.prog 21 #[.pointer none] w fun e w' => e = .returned (.int .i64 0) ∧ w' = w := by
  go_enter Try.func21, Try.ntmps21
  go_wp2
  go_ret
  exact ⟨rfl, rfl⟩

/-- As it is written. -/
def bytesL (l : List Bool) : List Int := (List.range 64).map (fun k => ((Bt l k : Nat) : Int))
theorem bytesL_len (l : List Bool) : (bytesL l).length = 64 := by simp [bytesL]
theorem bytesL_rng (l : List Bool) : ∀ x ∈ bytesL l, 0 ≤ x ∧ x ≤ 255 := by
  intro x hx
  simp only [bytesL, List.mem_map] at hx
  obtain ⟨k, _, rfl⟩ := hx
  have := Bt_lt l k
  omega
theorem bytesL_at (l : List Bool) (k : Nat) (hk : k < 64) : (bytesL l).getD k 0 = ((Bt l k : Nat) : Int) := by
  simp [bytesL, List.getD, hk]

/-- The first k, and noughts. -/
def bytesK (l : List Bool) (k : Nat) : List Int := (bytesL l).take k ++ List.replicate (64 - k) 0
theorem bytesK_len (l : List Bool) (k : Nat) (hk : k ≤ 64) : (bytesK l k).length = 64 := by simp [bytesK, bytesL_len]; omega
theorem bytesK_0 (l : List Bool) : bytesK l 0 = List.replicate 64 0 := by simp [bytesK]
theorem bytesK_64 (l : List Bool) : bytesK l 64 = bytesL l := by simp [bytesK, List.take_of_length_le, bytesL_len]
theorem bytesK_next (l : List Bool) (k : Nat) (hk : k < 64) : (bytesK l k).set k ((Bt l k : Nat) : Int) = bytesK l (k + 1) := by
  have hl : ((bytesL l).take k).length = k := by simp [bytesL_len]; omega
  unfold bytesK
  rw [List.set_append_right _ _ (by omega), hl, Nat.sub_self, show 64 - k = (64 - (k + 1)) + 1 by omega, List.replicate_succ, List.set_cons_zero]
  have hg := bytesL_at l k hk
  have ht : (bytesL l).take (k + 1) = (bytesL l).take k ++ [((Bt l k : Nat) : Int)] := by
    rw [List.take_succ_eq_append_getElem (by rw [bytesL_len]; omega)]
    congr 2
    rw [← hg, List.getD_eq_getElem?_getD, List.getElem?_eq_getElem (by rw [bytesL_len]; omega)]
    rfl
  rw [ht, List.append_assoc]
  rfl

theorem bytes_nil (w : World) : Calls Try.prog 11 #[.pointer none] w fun e w' => e = .returned (.slice none 0 0) ∧ w' = w := by
  go_enter Try.func11, Try.ntmps11
  go_wp2
  go_ret
  exact ⟨rfl, rfl⟩

theorem bytes_word (l : List Bool) (k : Nat) : ((W l (k * 8 / 64) : Nat) : Int) / 2 ^ (k * 8 % 64) % 256 = ((Bt l k : Nat) : Int) := by
  rw [← Bt_W l k, Int.natCast_emod, Int.natCast_ediv, Int.natCast_pow]; rfl

theorem bytes_run (w : World) (h : Mp w g l) : Calls Try.prog 11 #[.pointer (some ⟨g, 0, none⟩)] w fun e w' => e = .returned (.slice (some ⟨w.heap.size, 0, none⟩) 64 64) ∧ Row 5 w' w.heap.size (bytesL l) ∧ Below w.heap.size w w' := by
  have hi0 : (Try.prog.info? 5).map (fun i => (i.zero, i.size, i.bytes)) = some (some (.int .u8 0), 1, 1) := by kernel_rfl
  obtain ⟨ti, ht0, ht1, ht2, ht3⟩ := info_parts hi0
  have HM : Hid (∀ u, Below w.heap.size w u → Mp u g l) := fun u hu => h.stays hu
  have hgl := h.blk.lt
  have HI : Hid (bytesK l 0 = List.replicate 64 0) := bytesK_0 l
  have H64 : Hid (bytesK l 64 = bytesL l) := bytesK_64 l
  clear hi0 h
  go_enter Try.func11, Try.ntmps11
  go_wp2_with (refine wpList_make_bytes (by rfl) (.const (.int .i64 64)) (.const (.int .i64 64)) 37 (by rfl) w.heap.size 5 ti Try.underlying37 ht0 ht1 ht2 ht3 .i64 .i64 64 64 64 (by rfl) (by rfl) rfl rfl (by decide) (Nat.le_refl _) (Below.refl _ w) ?_; intro w1 hR1 hb1)
  go_loopw [10] (fun i wr => ∃ k : Nat, k ≤ 64 ∧ i = .int .i64 k ∧ Blk 5 wr w.heap.size ((bytesK l k).map (Value.int .u8)) ∧ Below w.heap.size w wr) (fun i _ => 64 - (intOf i).toNat)
  case atStart => exact ⟨0, by omega, rfl, by rw [HI.out]; exact hR1, hb1⟩
  case round =>
    rename_i hrel
    obtain ⟨k, hk, rfl, hR, hbr⟩ := hrel
    clear hR1 hb1
    by_cases hlt : k < 64
    · have hw := (HM.out wr hbr).word (k * 8 / 64) (by omega)
      have hby := bytes_word l k
      obtain ⟨x, hx⟩ : ∃ x, x = W l (k * 8 / 64) := ⟨_, rfl⟩
      obtain ⟨y, hy⟩ : ∃ y, y = Bt l k := ⟨_, rfl⟩
      have hxl : x < 18446744073709551616 := by rw [hx]; exact W_lt _ _
      have HS : Hid ((bytesK l k).set k (y : Int) = bytesK l (k + 1)) := by show _ = _; rw [hy]; exact bytesK_next l k hlt
      have hrl : (bytesK l k).length = 64 := bytesK_len l k hk
      rw [← hx, ← hy] at hby
      rw [← hx] at hw
      clear hx hy
      obtain ⟨cur, hcur⟩ : ∃ cur, cur = bytesK l k := ⟨_, rfl⟩
      rw [← hcur] at hR HS hrl
      clear hcur
      have hix : ∀ u : World, (Instr.indexAt 37 (.slice (some ⟨w.heap.size, 0, none⟩) 64 64) (.int .i64 k)).run Try.prog u = .ok (.pointer (some ⟨w.heap.size, k, none⟩)) u := fun u => by
        have := index_run 37 5 Try.underlying37 sizes5 elem5 w.heap.size 0 64 64 .i64 k (by omega) u
        rwa [Nat.zero_add] at this
      have hcl : k < (cur.map (Value.int .u8)).length := by rw [List.length_map]; omega
      clear hrl
      go_wp2_with (refine wpList_store_int (by rfl) (.tmp 28) (.tmp 27) 5 (by rfl) w.heap.size k (by rfl) .u8 _ (by rfl) size_u8 hR hcl ?_; intro w2 hR2 hbut2 hs2; rw [hby] at hR2)
      have hR3 : Blk 5 w2 w.heap.size ((bytesK l (k + 1)).map (Value.int .u8)) := by
        rw [← HS.out, List.map_set]; exact hR2
      go_roundw
      case rel => exact ⟨k + 1, by omega, by go_num, hR3, hbr.trans (hbut2.below (Nat.le_refl _) hbr.size)⟩
      case measure => simp [intOf]; omega
    · have hk64 : k = 64 := by omega
      subst hk64
      rw [H64.out] at hR
      go_wp2
      go_ret
      exact ⟨rfl, hR, hbr⟩

theorem Mp.copy {w w' : World} {q : Nat} (h : Mp w g l) (hq : Blk 64 w' q (mapV l)) : Mp w' q l := ⟨hq, h.lo, h.hi⟩

theorem copy_nil (w : World) : Calls Try.prog 10 #[.pointer none] w fun e w' => e = .returned (.pointer none) ∧ w' = w := by
  go_enter Try.func10, Try.ntmps10
  go_wp2
  go_ret
  exact ⟨rfl, rfl⟩

theorem agg_map (w : World) : (isAgg 64).run Try.prog w = .ok true w := by kernel_rfl
theorem size_map (w : World) : (sizeOf 64).run Try.prog w = .ok 9 w := sizeOf_run (by kernel_rfl) w
def zeroV : List Value := .int .i64 0 :: List.replicate 8 (.int .u64 0)
theorem alloc_map0 (w : World) : (Instr.alloc 64 true (.tuple #[])).run Try.prog w = .ok (.pointer (some ⟨w.heap.size, 0, none⟩)) (w.alloc (.cells zeroV.toArray 64)) := by kernel_rfl

theorem copy_run (w : World) (h : Mp w g l) : Calls Try.prog 10 #[.pointer (some ⟨g, 0, none⟩)] w fun e w' => e = .returned (.pointer (some ⟨w.heap.size, 0, none⟩)) ∧ Mp w' w.heap.size l ∧ Below w.heap.size w w' := by
  have hbl := h.blk
  obtain ⟨vs, hvs⟩ : ∃ vs, vs = mapV l := ⟨_, rfl⟩
  have hvl : vs.length = 9 := by rw [hvs]; exact mapV_len l
  have hv1 : ∀ v ∈ vs, v.oneCell' = true := by rw [hvs]; exact mapV_one l
  have HV : Hid (vs = mapV l) := hvs
  rw [← hvs] at hbl
  clear hvs
  have hz : zeroV.length = 9 := rfl
  go_enter Try.func10, Try.ntmps10
  go_wp2_with (first
    | (refine wpList_load_blk (by rfl) (.tmp 7) 64 (by rfl) g 0 9 (by rfl) agg_map size_map hbl vs (whole_load hvl) hvl ?_)
    | (refine wpList_alloc0 (by rfl) 64 (by rfl) (some 3) (by rfl) zeroV alloc_map0 ?_; intro w1 hP1 hb1 hs1)
    | (refine wpList_store_blk (by rfl) (.tmp 3) (.tmp 8) 64 (by rfl) w.heap.size 0 9 (by rfl) vs (by rfl) size_map hP1 hvl (by omega) hv1 vs (whole_store hz) ?_; intro w2 hP2 hbut2 hs2))
  go_ret
  exact ⟨rfl, ⟨by rw [← HV.out]; exact hP2, h.lo, h.hi⟩, hb1.trans (hbut2.below (Nat.le_refl _) (by omega))⟩
end
end Go.Proofs.Ytfmfjaokpnadaaa
