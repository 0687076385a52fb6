/-
  The walk over ptr.Encode.
-/
import Derived.Test.YteocmmmnfbabaaaDoorPtrKinds
namespace Go.Proofs.YteocmmmnfbabaaaDoor
set_option linter.unusedSimpArgs false
set_option linter.unusedVariables false
open Go.RowKit

theorem agg_44 (w : World) : (isAgg 74).run Tryd.prog w = .ok true w := isAgg_array Tryd.underlying74 w
theorem size_44 (w : World) : (sizeOf 74).run Tryd.prog w = .ok 44 w := sizeOf_run (by kernel_rfl) w

theorem put32_nil (n : Nat) (hn : n < 4294967296) (w : World) :
    Calls Tryd.prog 35 #[.slice none 0 0, .int .u32 (n : Int)] w fun e w' => ∃ a' c', e = .returned (.slice a' 4 c') ∧ Bs w' a' c' (b32 n) ∧ Below w.heap.size w w' :=
  put32_to none 0 [] n n rfl hn w (b32 n) rfl (Bs.empty w) (by simp)

/-- The numbers of a pointer. -/
def Pt.num (p : Pt) (k : Nat) : Nat := if k = 0 then p.b else if k = 1 then p.x else p.y
theorem Pt.num_lt {p : Pt} (h : p.ok) (k : Nat) : p.num k < 4294967296 := by
  unfold Pt.num
  split
  · exact h.b
  · split
    · exact h.x
    · exact h.y

/-- What of it is written so far, and noughts behind. -/
def Pt.part (p : Pt) (n : Nat) : List Int := p.enc.take n ++ List.replicate (44 - n) 0
theorem Pt.part_len {p : Pt} (h : p.ok) (n : Nat) (hn : n ≤ 44) : (p.part n).length = 44 := by
  simp [Pt.part, Pt.enc_len h]; omega
theorem Pt.part_all {p : Pt} (h : p.ok) : p.part 44 = p.enc := by
  have := Pt.enc_len h
  simp [Pt.part, List.take_of_length_le (show p.enc.length ≤ 44 by omega)]

theorem part_step {E : List Int} (hE : E.length = 44) (A m : Nat) (hm : A + m ≤ 44) (ys : List Int) (hy : ys = (E.drop A).take m) :
    splice ((E.take A ++ List.replicate (44 - A) 0).map (Value.int .u8)) A (ys.map (Value.int .u8)) = (E.take (A + m) ++ List.replicate (44 - (A + m)) 0).map (Value.int .u8) := by
  have hl : ys.length = m := by rw [hy]; simp; omega
  have h1 : (E.take A).length = A := by simp; omega
  have h := splice_row (E.take A) (List.replicate (44 - A) 0) ys
  rw [h1] at h
  rw [h, hl, List.drop_replicate, hy]
  congr 2
  · rw [List.take_add]
  · congr 1; omega

theorem Pt.enc_num {p : Pt} (h : p.ok) (k : Nat) (hk : k < 3) : b32 (p.num k) = (p.enc.drop (32 + 4 * k)).take 4 := by
  have e2 : p.enc.drop 32 = b32 p.b ++ (b32 p.x ++ b32 p.y) := by unfold Pt.enc; rw [← h.len, List.drop_left]
  rw [← List.drop_drop, e2]
  rcases (by omega : k = 0 ∨ k = 1 ∨ k = 2) with rfl | rfl | rfl <;> rfl

theorem Pt.enc_hash {p : Pt} (h : p.ok) : p.h = (p.enc.drop 0).take 32 := by
  unfold Pt.enc; rw [List.drop_zero, ← h.len, List.take_left]

set_option maxHeartbeats 1000000 in
set_option maxRecDepth 100000 in
theorem encode_run (p : Pt) (hp : p.ok) (w : World) : Calls Tryd.prog 34 #[.agg p.vs.toArray] w fun e w' => e = .returned (.agg (p.enc.map (Value.int .u8)).toArray) ∧ Below w.heap.size w w' := by
  obtain ⟨PV, hv⟩ : ∃ PV, PV = p.vs.toArray := ⟨_, rfl⟩
  rw [← hv]
  obtain ⟨W, hW⟩ : ∃ W, W = ((w.alloc (.cells PV 26)).alloc (.cells #[.int .u8 0, .int .u8 0, .int .u8 0, .int .u8 0, .int .u8 0, .int .u8 0, .int .u8 0, .int .u8 0, .int .u8 0, .int .u8 0, .int .u8 0, .int .u8 0, .int .u8 0, .int .u8 0, .int .u8 0, .int .u8 0, .int .u8 0, .int .u8 0, .int .u8 0, .int .u8 0, .int .u8 0, .int .u8 0, .int .u8 0, .int .u8 0, .int .u8 0, .int .u8 0, .int .u8 0, .int .u8 0, .int .u8 0, .int .u8 0, .int .u8 0, .int .u8 0, .int .u8 0, .int .u8 0, .int .u8 0, .int .u8 0, .int .u8 0, .int .u8 0, .int .u8 0, .int .u8 0, .int .u8 0, .int .u8 0, .int .u8 0, .int .u8 0] 74)).alloc (.cells #[.int .u8 0, .int .u8 0, .int .u8 0, .int .u8 0, .int .u8 0, .int .u8 0, .int .u8 0, .int .u8 0, .int .u8 0, .int .u8 0, .int .u8 0, .int .u8 0, .int .u8 0, .int .u8 0, .int .u8 0, .int .u8 0, .int .u8 0, .int .u8 0, .int .u8 0, .int .u8 0, .int .u8 0, .int .u8 0, .int .u8 0, .int .u8 0, .int .u8 0, .int .u8 0, .int .u8 0, .int .u8 0, .int .u8 0, .int .u8 0, .int .u8 0, .int .u8 0, .int .u8 0, .int .u8 0, .int .u8 0, .int .u8 0, .int .u8 0, .int .u8 0, .int .u8 0, .int .u8 0, .int .u8 0, .int .u8 0, .int .u8 0, .int .u8 0] 74) := ⟨_, rfl⟩
  have hbW : Below w.heap.size w W := by rw [hW]; exact (((Below.refl _ _).alloc (Nat.le_refl _) _).alloc (by simp) _).alloc (by simp; omega) _
  have hP : Blk 26 W w.heap.size p.vs := by rw [hW]; exact ((Blk.newAt rfl hv).alloc _).alloc _
  have hR : Blk 74 W (w.heap.size + 1) ((List.replicate 44 0).map (Value.int .u8)) := by rw [hW]; exact (Blk.newAt (by simp) rfl).alloc _
  have hO : Blk 74 W (w.heap.size + 1 + 1) ((List.replicate 44 0).map (Value.int .u8)) := by rw [hW]; exact Blk.newAt (by simp) rfl
  have hWs : W.heap.size = w.heap.size + 3 := by rw [hW]; simp
  have hPB : Bs W (some ⟨w.heap.size, 0, none⟩) 32 p.h := by
    have hl := hp.len
    refine ⟨hp.rng, by omega, by decide, by simp, .inr ⟨_, 0, rfl, fun i hi => ?_⟩⟩
    rw [hP.cell]
    have := Pt.vs_hash hp
    simp only [List.drop_zero] at this
    have h2 : p.vs[0 + i]? = (p.vs.take 32)[i]? := by rw [Nat.zero_add, List.getElem?_take_of_lt (by omega)]
    rw [h2, ← this]
    simp [List.getD, hi]
  have HW : Hid (W = _) := hW
  clear hW hv
  go_enter Tryd.func34, Tryd.ntmps34
  go_wp2
  rw [← HW.out]
  clear HW
  generalize hH : w.heap.size = H at *
  refine wp_region_any (by kernel_rfl) ?_
  change wpAny _ _ _ _ _ _ _ (World.drew _)
  refine any_take 0 rfl (some 7) rfl (.slice (some ⟨H + 1 + 1, 0, none⟩) 44 44) (by kernel_rfl) (by kernel_rfl) (by kernel_rfl) (fun _ _ _ h => h) (Or.inl ⟨by rfl, fun w => by go_simp⟩) ?_
  simp only [Act.put, List.setIfInBounds_toArray, List.set_cons_succ, List.set_cons_zero]
  refine any_take 1 rfl (some 8) rfl (.pointer (some ⟨H, 0, none⟩)) (by kernel_rfl) (by kernel_rfl) (by kernel_rfl) (fun _ _ _ h => h) (Or.inl ⟨by rfl, fun w => by go_simp⟩) ?_
  simp only [Act.put, List.setIfInBounds_toArray, List.set_cons_succ, List.set_cons_zero]
  refine any_take 2 rfl (some 9) rfl (.slice (some ⟨H, 0, none⟩) 32 32) (by kernel_rfl) (by kernel_rfl) (by kernel_rfl) (fun _ _ _ h => h) (Or.inl ⟨by rfl, fun w => by go_simp⟩) ?_
  simp only [Act.put, List.setIfInBounds_toArray, List.set_cons_succ, List.set_cons_zero]
  refine any_seq 3 (by rfl) (by kernel_rfl) ?_
  simp only [List.drop_succ_cons, List.drop_zero]
  have hpl : p.h.length = 32 := hp.len
  have hlen0 : ((List.replicate 44 (0 : Int)).map (Value.int .u8)).length = 44 := rfl
  refine wpList_copy_blk (by rfl) (.tmp 7) (.tmp 9) 27 27 (by rfl) 5 Tryd.underlying27 sizes5 (H + 1 + 1) 0 44 44 _ 32 32 (by rfl) (by rfl) hO.drew p.h 32 (hPB.stays (Below.refl _ _).drew) (by decide) (by rfl) (by omega) (by rw [hlen0]; omega) ?_
  intro w1 hO1 hbut1 hsz1
  have e1 : splice ((List.replicate 44 (0 : Int)).map (Value.int .u8)) 0 ((p.h.take 32).map (Value.int .u8)) = (p.part 32).map (Value.int .u8) := by
    have := part_step (Pt.enc_len hp) 0 32 (by omega) p.h (Pt.enc_hash hp)
    rw [List.take_of_length_le (by omega)]
    simpa [Pt.part] using this
  rw [e1] at hO1
  clear e1
  have hne : H ≠ H + 1 + 1 := by omega
  have hltH : H < W.drew.heap.size := by show H < W.heap.size; omega
  have hP1 : Blk 26 w1 H p.vs := Blk.but (w := W.drew) hP hbut1 hne
  have hNB : w1.cell? ⟨H, 32, none⟩ = some (.int .u32 (p.b : Int)) := (hP1.cell 32).trans (Pt.vs_birth hp)
  have hNX : w1.cell? ⟨H, 33, none⟩ = some (.int .u32 (p.x : Int)) := (hP1.cell 33).trans (Pt.vs_x hp)
  have hNY : w1.cell? ⟨H, 34, none⟩ = some (.int .u32 (p.y : Int)) := (hP1.cell 34).trans (Pt.vs_y hp)
  have hbw1 : But (H + 1 + 1) W w1 := ⟨hbut1.os, hbut1.tape, hbut1.output, hbut1.size, hbut1.block⟩
  clear hbut1
  go_wp2
  go_loopw [4, 20] (fun v i wr => ∃ k : Nat, k ≤ 3 ∧ i = .int .i64 k ∧ v = .int .i64 ((32 + 4 * k : Nat) : Int) ∧ Blk 74 wr (H + 1 + 1) ((p.part (32 + 4 * k)).map (Value.int .u8)) ∧ But (H + 1 + 1) W wr) (fun _ i _ => 3 - (intOf i).toNat)
  case atStart => exact ⟨0, by omega, rfl, rfl, hO1, hbw1⟩
  case round =>
    rename_i hrel
    obtain ⟨k, hk, rfl, rfl, hOr, hbr⟩ := hrel
    clear hO1 hbw1 hNB hNX hNY hP1
    have hszr := hbr.size
    by_cases hlt : k < 3
    · obtain ⟨A, hA⟩ : ∃ A, A = 32 + 4 * k := ⟨_, rfl⟩
      obtain ⟨n, hn⟩ : ∃ n, n = p.num k := ⟨_, rfl⟩
      have hnl : n < 4294967296 := hn ▸ Pt.num_lt hp k
      have hix : ∀ u : World, (Instr.index 103 (.agg #[.int .u32 (p.b : Int), .int .u32 (p.x : Int), .int .u32 (p.y : Int)]) (.int .i64 (k : Int))).run Tryd.prog u = .ok (.int .u32 (n : Int)) u := fun u => by
        refine index_agg Tryd.underlying103 Tryd.underlying22 sizes23 hlt ?_ .i64 u
        rw [hn]
        rcases (by omega : k = 0 ∨ k = 1 ∨ k = 2) with rfl | rfl | rfl <;> rfl
      have hsl : ∀ u : World, (Instr.sliceAt 74 (.pointer (some ⟨H + 1 + 1, 0, none⟩)) (some (.int .i64 (A : Int))) none none).run Tryd.prog u = .ok (.slice (some ⟨H + 1 + 1, A, none⟩) (44 - A) (44 - A)) u := fun u => by
        have := slice_arr (P := Tryd.prog) (g := H + 1 + 1) (off := 0) (k := A) Tryd.underlying74 sizes5 (by omega) .i64 u
        rw [Nat.zero_add] at this
        exact this
      have hA40 : A ≤ 40 := by omega
      have HA : Hid (A = 32 + 4 * k ∧ n = p.num k) := ⟨hA, hn⟩
      rw [← hA] at hOr ⊢
      clear hA hn
      go_wp2
      refine wp_region_any (by kernel_rfl) ?_
      change wpAny _ _ _ _ _ _ _ (World.drew _)
      refine any_take 0 rfl (some 23) rfl (.int .i64 (A : Int)) (by kernel_rfl) (by kernel_rfl) (by kernel_rfl) (fun _ _ _ h => h) (Or.inl ⟨by rfl, fun w => by go_simp⟩) ?_
      simp only [Act.put, List.setIfInBounds_toArray, List.set_cons_succ, List.set_cons_zero]
      refine any_take 1 rfl (some 24) rfl (.int .i64 (A : Int)) (by kernel_rfl) (by kernel_rfl) (by kernel_rfl) (fun _ _ _ h => h) (Or.inl ⟨by rfl, fun w => by go_simp⟩) ?_
      simp only [Act.put, List.setIfInBounds_toArray, List.set_cons_succ, List.set_cons_zero]
      refine any_take 2 rfl (some 25) rfl (.slice (some ⟨H + 1 + 1, A, none⟩) (44 - A) (44 - A)) (by kernel_rfl) (by kernel_rfl) (by kernel_rfl) (fun _ _ _ h => h) (Or.inl ⟨by rfl, fun w => by go_simp⟩) ?_
      simp only [Act.put, List.setIfInBounds_toArray, List.set_cons_succ, List.set_cons_zero]
      refine any_take 3 rfl (some 26) rfl (.int .u32 (n : Int)) (by kernel_rfl) (by kernel_rfl) (by kernel_rfl) (fun _ _ _ h => h) (Or.inl ⟨by rfl, fun w => by go_simp⟩) ?_
      simp only [Act.put, List.setIfInBounds_toArray, List.set_cons_succ, List.set_cons_zero]
      refine any_call 4 (by kernel_rfl) rfl rfl (some 27) rfl 35 #[.slice none 0 0, .int .u32 (n : Int)] (by go_simp) (put32_nil n hnl _) ?_
      rintro e w5 ⟨a5, c5, rfl, hB5, hb5⟩
      refine ⟨_, rfl, ?_⟩
      simp only [Act.put, List.setIfInBounds_toArray, List.set_cons_succ, List.set_cons_zero]
      refine any_seq 5 (by rfl) (by kernel_rfl) ?_
      simp only [List.drop_succ_cons, List.drop_zero]
      have hO5 : Blk 74 w5 (H + 1 + 1) ((p.part A).map (Value.int .u8)) := Blk.stays (w := wr.drew) hOr hb5
      have hlp : ((p.part A).map (Value.int .u8)).length = 44 := by rw [List.length_map]; exact Pt.part_len hp A (by omega)
      refine wpList_copy_blk (by rfl) (.tmp 25) (.tmp 27) 27 27 (by rfl) 5 Tryd.underlying27 sizes5 (H + 1 + 1) A (44 - A) (44 - A) _ 4 c5 (by rfl) (by rfl) hO5 (b32 n) 4 hB5 (by decide) (by show 4 = Nat.min 4 (44 - A); simp [Nat.min_def]; omega) (Nat.le_refl 4) (by rw [hlp]; omega) ?_
      intro w6 hO6 hbut6 hsz6
      obtain ⟨hA, hn⟩ := HA.out
      have e1 : splice ((p.part A).map (Value.int .u8)) A (((b32 n).take 4).map (Value.int .u8)) = (p.part (32 + 4 * (k + 1))).map (Value.int .u8) := by
        have h1 := part_step (Pt.enc_len hp) A 4 (by omega) (b32 n) (by rw [hn, hA]; exact Pt.enc_num hp k hlt)
        have h2 : (b32 n).take 4 = b32 n := rfl
        rw [h2, show 32 + 4 * (k + 1) = A + 4 by omega]
        exact h1
      rw [e1] at hO6
      have hbr6 : But (H + 1 + 1) W w6 := (hbr.trans ((But.refl _ _).drew.trans (But.of_below hb5))).trans hbut6
      have HO6 : Hid _ := hO6
      have HBR : Hid _ := hbr6
      clear e1 hO6 hbr6 hO5 hlp hOr hbr hB5 hb5 hbut6 hsz6 hA hn
      go_wp2
      go_roundw
      case rel => exact ⟨k + 1, by omega, by go_num, by have := HA.out.1; go_num, HO6.out, HBR.out⟩
      case measure => simp [intOf]; omega
    · have hk3 : k = 3 := by omega
      subst hk3
      have hfin : (p.part (32 + 4 * 3)).map (Value.int .u8) = p.enc.map (Value.int .u8) := by rw [show 32 + 4 * 3 = 44 from rfl, Pt.part_all hp]
      rw [hfin] at hOr
      clear hfin
      have hEl : (p.enc.map (Value.int .u8)).length = 44 := by rw [List.length_map]; exact Pt.enc_len hp
      have hRr : Blk 74 wr (H + 1) ((List.replicate 44 0).map (Value.int .u8)) := Blk.but hR hbr (by omega)
      obtain ⟨us, hus⟩ : ∃ us, us = p.enc.map (Value.int .u8) := ⟨_, rfl⟩
      have hu1 : ∀ v ∈ us, v.oneCell' = true := hus ▸ int_oneCell _ _
      rw [← hus] at hOr hEl
      have HE : Hid (us = (us.drop 0).take 44) := by show _ = _; rw [List.drop_zero, List.take_of_length_le (by omega)]
      have HF : Hid (us = ((List.replicate 44 (0 : Int)).map (Value.int .u8)).take 0 ++ us ++ ((List.replicate 44 (0 : Int)).map (Value.int .u8)).drop (0 + 44)) := by show _ = _; simp
      have HUS : Hid (us = p.enc.map (Value.int .u8)) := hus
      have HZ : Hid (0 + 44 ≤ ((List.replicate 44 (0 : Int)).map (Value.int .u8)).length) := by show _ ≤ _; decide
      clear hus
      go_wp2_with (first
        | (refine wpList_load_blk (by rfl) (.tmp 3) 74 (by rfl) (H + 1 + 1) 0 44 (by rfl) agg_44 size_44 hOr us HE.out hEl ?_)
        | (refine wpList_store_blk (by rfl) (.tmp 2) (.tmp 31) 74 (by rfl) (H + 1) 0 44 (by rfl) us (by rfl) size_44 hRr hEl HZ.out hu1 us HF.out ?_; intro w7 hR7 hbut7 hsz7))
      refine bodyPost_ret_blk rfl rfl (by rfl) agg_44 size_44 hR7 hEl ⟨by rw [HUS.out], ?_⟩
      rw [hH]
      exact hbW.trans ((hbr.below (by omega) (by omega)).trans (hbut7.below (by omega) (by omega)))

end Go.Proofs.YteocmmmnfbabaaaDoor
