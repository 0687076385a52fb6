/-
  The walks over ptr.May, ptr.IsHole, ptr.IsAbsent, and the document's.
-/
import Derived.Test.YthbldjnpnligpaaDoorG04
namespace Go.Proofs.YthbldjnpnligpaaDoor
set_option linter.unusedSimpArgs false
set_option linter.unusedVariables false
set_option maxRecDepth 100000
open Go.RowKit

theorem arr33 {p : Pt} (h : p.ok) {PV : Array Value} (hv : PV = p.vs.toArray) : PV[32]? = some (.int .u32 p.b) ∧ PV[33]? = some (.int .u32 p.x) ∧ PV[34]? = some (.int .u32 p.y) := by
  subst hv
  simp [Pt.vs_birth h, Pt.vs_x h, Pt.vs_y h]

/-- The hole's cells. -/
theorem zero_vs : Pt.zero.vs.toArray = #[.int .u8 0, .int .u8 0, .int .u8 0, .int .u8 0, .int .u8 0, .int .u8 0, .int .u8 0, .int .u8 0, .int .u8 0, .int .u8 0, .int .u8 0, .int .u8 0, .int .u8 0, .int .u8 0, .int .u8 0, .int .u8 0, .int .u8 0, .int .u8 0, .int .u8 0, .int .u8 0, .int .u8 0, .int .u8 0, .int .u8 0, .int .u8 0, .int .u8 0, .int .u8 0, .int .u8 0, .int .u8 0, .int .u8 0, .int .u8 0, .int .u8 0, .int .u8 0, .int .u32 0, .int .u32 0, .int .u32 0] := rfl

set_option maxRecDepth 100000 in
theorem may_run (p : Pt) (hp : p.ok) (w : World) : Calls Tryd.prog 147 #[.agg p.vs.toArray] w fun e w' => e = .returned (.bool p.may) ∧ Below w.heap.size w w' := by
  obtain ⟨PV, hv⟩ : ∃ PV, PV = p.vs.toArray := ⟨_, rfl⟩
  obtain ⟨h32, h33, h34⟩ := arr33 hp hv
  have hb := (Below.refl w.heap.size w).alloc (Nat.le_refl _) (.cells PV 42)
  have hx := hp.x
  have hy := hp.y
  obtain ⟨x, hxx⟩ : ∃ x, x = p.x := ⟨_, rfl⟩
  obtain ⟨y, hyy⟩ : ∃ y, y = p.y := ⟨_, rfl⟩
  have hm : p.may = if x = 0 then y == 0 else !(y == x) := by rw [hxx, hyy]; rfl
  rw [← hv, hm]
  rw [← hxx] at h33 hx
  rw [← hyy] at h34 hy
  clear hxx hyy hv hm hp
  by_cases h0 : x = 0
  · subst h0
    rw [if_pos rfl]
    go_enter Tryd.func147, Tryd.ntmps147
    go_wp2
    go_ret
    refine ⟨?_, hb⟩
    rw [← natbeq]; rfl
  · rw [if_neg h0]
    go_enter Tryd.func147, Tryd.ntmps147
    go_wp2
    go_ret
    refine ⟨?_, hb⟩
    rw [← natbeq]; rfl

--?
set_option maxRecDepth 100000 in
theorem isHole_run (p : Pt) (hp : p.ok) (w : World) : Calls Tryd.prog 87 #[.agg p.vs.toArray] w fun e w' => e = .returned (.bool p.hole) ∧ Below w.heap.size w w' := by
  obtain ⟨PV, hv⟩ : ∃ PV, PV = p.vs.toArray := ⟨_, rfl⟩
  have hb := (Below.refl w.heap.size w).alloc (Nat.le_refl _) (.cells PV 42)
  have hB : Blk 42 (w.alloc (.cells PV 42)) w.heap.size p.vs := Blk.newAt rfl hv
  have heq : ∀ u, (Op.equalIn 10000 42 (.agg PV) (.agg #[.int .u8 0, .int .u8 0, .int .u8 0, .int .u8 0, .int .u8 0, .int .u8 0, .int .u8 0, .int .u8 0, .int .u8 0, .int .u8 0, .int .u8 0, .int .u8 0, .int .u8 0, .int .u8 0, .int .u8 0, .int .u8 0, .int .u8 0, .int .u8 0, .int .u8 0, .int .u8 0, .int .u8 0, .int .u8 0, .int .u8 0, .int .u8 0, .int .u8 0, .int .u8 0, .int .u8 0, .int .u8 0, .int .u8 0, .int .u8 0, .int .u8 0, .int .u8 0, .int .u32 0, .int .u32 0, .int .u32 0])).run Tryd.prog u = .ok p.hole u := fun u => by
    rw [hv, ← zero_vs]; exact equal_ptr hp Pt.zero_ok 9997 u
  have hlen := Pt.vs_len hp
  have HV : Hid (PV = p.vs.toArray) := hv
  rw [← hv]
  clear hv
  go_enter Tryd.func87, Tryd.ntmps87
  go_wp2_with (refine wpList_load_blk (by rfl) (.tmp 1) 42 (by rfl) w.heap.size 0 35 (by rfl) agg_ptr size_ptr hB p.vs (by rw [List.drop_zero, List.take_of_length_le (by omega)]) hlen ?_; rw [← HV.out])
  go_ret
  exact ⟨rfl, hb⟩

end Go.Proofs.YthbldjnpnligpaaDoor

/-
  The walk over ptr.Encode.
-/

namespace Go.Proofs.YthbldjnpnligpaaDoor
set_option linter.unusedSimpArgs false
set_option linter.unusedVariables false
set_option maxRecDepth 100000
open Go.RowKit

theorem agg_44 (w : World) : (isAgg 199).run Tryd.prog w = .ok true w := isAgg_array Tryd.underlying199 w
theorem size_44 (w : World) : (sizeOf 199).run Tryd.prog w = .ok 44 w := sizeOf_run (by kernel_rfl) w

theorem put32_nil (n : Nat) (hn : n < 4294967296) (w : World) :
    Calls Tryd.prog 127 #[.slice none 0 0, .int .u32 (n : Int)] w fun e w' => ∃ a' c', e = .returned (.slice a' 4 c') ∧ Bs w' a' c' (b32 n) ∧ Below w.heap.size w w' :=
  put32_to none 0 [] n n rfl hn w (b32 n) rfl (Bs.empty w) (by simp)

/-- The numbers of a pointer. -/
def Pt.num (p : Pt) (k : Nat) : Nat := if k = 0 then p.b else if k = 1 then p.x else p.y
theorem Pt.num_lt {p : Pt} (h : p.ok) (k : Nat) : p.num k < 4294967296 := by
  unfold Pt.num
  split
  · exact h.b
  · split
    · exact h.x
    · exact h.y

/-- What of it is written so far, and noughts behind. -/
def Pt.part (p : Pt) (n : Nat) : List Int := p.enc.take n ++ List.replicate (44 - n) 0
theorem Pt.part_len {p : Pt} (h : p.ok) (n : Nat) (hn : n ≤ 44) : (p.part n).length = 44 := by
  simp [Pt.part, Pt.enc_len h]; omega
theorem Pt.part_all {p : Pt} (h : p.ok) : p.part 44 = p.enc := by
  have := Pt.enc_len h
  simp [Pt.part, List.take_of_length_le (show p.enc.length ≤ 44 by omega)]

theorem part_step {E : List Int} (hE : E.length = 44) (A m : Nat) (hm : A + m ≤ 44) (ys : List Int) (hy : ys = (E.drop A).take m) :
    splice ((E.take A ++ List.replicate (44 - A) 0).map (Value.int .u8)) A (ys.map (Value.int .u8)) = (E.take (A + m) ++ List.replicate (44 - (A + m)) 0).map (Value.int .u8) := by
  have hl : ys.length = m := by rw [hy]; simp; omega
  have h1 : (E.take A).length = A := by simp; omega
  have h := splice_row (E.take A) (List.replicate (44 - A) 0) ys
  rw [h1] at h
  rw [h, hl, List.drop_replicate, hy]
  congr 2
  · rw [List.take_add]
  · congr 1; omega

theorem Pt.enc_num {p : Pt} (h : p.ok) (k : Nat) (hk : k < 3) : b32 (p.num k) = (p.enc.drop (32 + 4 * k)).take 4 := by
  have e2 : p.enc.drop 32 = b32 p.b ++ (b32 p.x ++ b32 p.y) := by unfold Pt.enc; rw [← h.len, List.drop_left]
  rw [← List.drop_drop, e2]
  rcases (by omega : k = 0 ∨ k = 1 ∨ k = 2) with rfl | rfl | rfl <;> rfl

theorem Pt.enc_hash {p : Pt} (h : p.ok) : p.h = (p.enc.drop 0).take 32 := by
  unfold Pt.enc; rw [List.drop_zero, ← h.len, List.take_left]

set_option maxHeartbeats 1000000 in
set_option maxRecDepth 100000 in
theorem encode_run (p : Pt) (hp : p.ok) (w : World) : Calls Tryd.prog 128 #[.agg p.vs.toArray] w fun e w' => e = .returned (.agg (p.enc.map (Value.int .u8)).toArray) ∧ Below w.heap.size w w' := by
  obtain ⟨PV, hv⟩ : ∃ PV, PV = p.vs.toArray := ⟨_, rfl⟩
  rw [← hv]
  obtain ⟨W, hW⟩ : ∃ W, W = ((w.alloc (.cells PV 42)).alloc (.cells #[.int .u8 0, .int .u8 0, .int .u8 0, .int .u8 0, .int .u8 0, .int .u8 0, .int .u8 0, .int .u8 0, .int .u8 0, .int .u8 0, .int .u8 0, .int .u8 0, .int .u8 0, .int .u8 0, .int .u8 0, .int .u8 0, .int .u8 0, .int .u8 0, .int .u8 0, .int .u8 0, .int .u8 0, .int .u8 0, .int .u8 0, .int .u8 0, .int .u8 0, .int .u8 0, .int .u8 0, .int .u8 0, .int .u8 0, .int .u8 0, .int .u8 0, .int .u8 0, .int .u8 0, .int .u8 0, .int .u8 0, .int .u8 0, .int .u8 0, .int .u8 0, .int .u8 0, .int .u8 0, .int .u8 0, .int .u8 0, .int .u8 0, .int .u8 0] 199)).alloc (.cells #[.int .u8 0, .int .u8 0, .int .u8 0, .int .u8 0, .int .u8 0, .int .u8 0, .int .u8 0, .int .u8 0, .int .u8 0, .int .u8 0, .int .u8 0, .int .u8 0, .int .u8 0, .int .u8 0, .int .u8 0, .int .u8 0, .int .u8 0, .int .u8 0, .int .u8 0, .int .u8 0, .int .u8 0, .int .u8 0, .int .u8 0, .int .u8 0, .int .u8 0, .int .u8 0, .int .u8 0, .int .u8 0, .int .u8 0, .int .u8 0, .int .u8 0, .int .u8 0, .int .u8 0, .int .u8 0, .int .u8 0, .int .u8 0, .int .u8 0, .int .u8 0, .int .u8 0, .int .u8 0, .int .u8 0, .int .u8 0, .int .u8 0, .int .u8 0] 199) := ⟨_, rfl⟩
  have hbW : Below w.heap.size w W := by rw [hW]; exact (((Below.refl _ _).alloc (Nat.le_refl _) _).alloc (by simp) _).alloc (by simp; omega) _
  have hP : Blk 42 W w.heap.size p.vs := by rw [hW]; exact ((Blk.newAt rfl hv).alloc _).alloc _
  have hR : Blk 199 W (w.heap.size + 1) ((List.replicate 44 0).map (Value.int .u8)) := by rw [hW]; exact (Blk.newAt (by simp) rfl).alloc _
  have hO : Blk 199 W (w.heap.size + 1 + 1) ((List.replicate 44 0).map (Value.int .u8)) := by rw [hW]; exact Blk.newAt (by simp) rfl
  have hWs : W.heap.size = w.heap.size + 3 := by rw [hW]; simp
  have hPB : Bs W (some ⟨w.heap.size, 0, none⟩) 32 p.h := by
    have hl := hp.len
    refine ⟨hp.rng, by omega, by decide, by simp, .inr ⟨_, 0, rfl, fun i hi => ?_⟩⟩
    rw [hP.cell]
    have := Pt.vs_hash hp
    simp only [List.drop_zero] at this
    have h2 : p.vs[0 + i]? = (p.vs.take 32)[i]? := by rw [Nat.zero_add, List.getElem?_take_of_lt (by omega)]
    rw [h2, ← this]
    simp [List.getD, hi]
  have HW : Hid (W = _) := hW
  clear hW hv
  go_enter Tryd.func128, Tryd.ntmps128
  go_wp2
  rw [← HW.out]
  clear HW
  generalize hH : w.heap.size = H at *
  refine wp_region_any (by kernel_rfl) ?_
  change wpAny _ _ _ _ _ _ _ (World.drew _)
  refine any_take 0 rfl (some 7) rfl (.slice (some ⟨H + 1 + 1, 0, none⟩) 44 44) (by kernel_rfl) (by kernel_rfl) (by kernel_rfl) (fun _ _ _ h => h) (Or.inl ⟨by rfl, fun w => by go_simp⟩) ?_
  simp only [Act.put, List.setIfInBounds_toArray, List.set_cons_succ, List.set_cons_zero]
  refine any_take 1 rfl (some 8) rfl (.pointer (some ⟨H, 0, none⟩)) (by kernel_rfl) (by kernel_rfl) (by kernel_rfl) (fun _ _ _ h => h) (Or.inl ⟨by rfl, fun w => by go_simp⟩) ?_
  simp only [Act.put, List.setIfInBounds_toArray, List.set_cons_succ, List.set_cons_zero]
  refine any_take 2 rfl (some 9) rfl (.slice (some ⟨H, 0, none⟩) 32 32) (by kernel_rfl) (by kernel_rfl) (by kernel_rfl) (fun _ _ _ h => h) (Or.inl ⟨by rfl, fun w => by go_simp⟩) ?_
  simp only [Act.put, List.setIfInBounds_toArray, List.set_cons_succ, List.set_cons_zero]
  refine any_seq 3 (by rfl) (by kernel_rfl) ?_
  simp only [List.drop_succ_cons, List.drop_zero]
  have hpl : p.h.length = 32 := hp.len
  have hlen0 : ((List.replicate 44 (0 : Int)).map (Value.int .u8)).length = 44 := rfl
  refine wpList_copy_blk (by rfl) (.tmp 7) (.tmp 9) 43 43 (by rfl) 5 Tryd.underlying43 sizes5 (H + 1 + 1) 0 44 44 _ 32 32 (by rfl) (by rfl) hO.drew p.h 32 (hPB.stays (Below.refl _ _).drew) (by decide) (by rfl) (by omega) (by rw [hlen0]; omega) ?_
  intro w1 hO1 hbut1 hsz1
  have e1 : splice ((List.replicate 44 (0 : Int)).map (Value.int .u8)) 0 ((p.h.take 32).map (Value.int .u8)) = (p.part 32).map (Value.int .u8) := by
    have := part_step (Pt.enc_len hp) 0 32 (by omega) p.h (Pt.enc_hash hp)
    rw [List.take_of_length_le (by omega)]
    simpa [Pt.part] using this
  rw [e1] at hO1
  clear e1
  have hne : H ≠ H + 1 + 1 := by omega
  have hltH : H < W.drew.heap.size := by show H < W.heap.size; omega
  have hP1 : Blk 42 w1 H p.vs := Blk.but (w := W.drew) hP hbut1 hne
  have hNB : w1.cell? ⟨H, 32, none⟩ = some (.int .u32 (p.b : Int)) := (hP1.cell 32).trans (Pt.vs_birth hp)
  have hNX : w1.cell? ⟨H, 33, none⟩ = some (.int .u32 (p.x : Int)) := (hP1.cell 33).trans (Pt.vs_x hp)
  have hNY : w1.cell? ⟨H, 34, none⟩ = some (.int .u32 (p.y : Int)) := (hP1.cell 34).trans (Pt.vs_y hp)
  have hbw1 : But (H + 1 + 1) W w1 := ⟨hbut1.os, hbut1.tape, hbut1.output, hbut1.size, hbut1.block⟩
  clear hbut1
  go_wp2
  go_loopw [4, 20] (fun v i wr => ∃ k : Nat, k ≤ 3 ∧ i = .int .i64 k ∧ v = .int .i64 ((32 + 4 * k : Nat) : Int) ∧ Blk 199 wr (H + 1 + 1) ((p.part (32 + 4 * k)).map (Value.int .u8)) ∧ But (H + 1 + 1) W wr) (fun _ i _ => 3 - (intOf i).toNat)
  case atStart => exact ⟨0, by omega, rfl, rfl, hO1, hbw1⟩
  case round =>
    rename_i hrel
    obtain ⟨k, hk, rfl, rfl, hOr, hbr⟩ := hrel
    clear hO1 hbw1 hNB hNX hNY hP1
    have hszr := hbr.size
    by_cases hlt : k < 3
    · obtain ⟨A, hA⟩ : ∃ A, A = 32 + 4 * k := ⟨_, rfl⟩
      obtain ⟨n, hn⟩ : ∃ n, n = p.num k := ⟨_, rfl⟩
      have hnl : n < 4294967296 := hn ▸ Pt.num_lt hp k
      have hix : ∀ u : World, (Instr.index 224 (.agg #[.int .u32 (p.b : Int), .int .u32 (p.x : Int), .int .u32 (p.y : Int)]) (.int .i64 (k : Int))).run Tryd.prog u = .ok (.int .u32 (n : Int)) u := fun u => by
        refine index_agg Tryd.underlying224 Tryd.underlying34 sizes23 hlt ?_ .i64 u
        rw [hn]
        rcases (by omega : k = 0 ∨ k = 1 ∨ k = 2) with rfl | rfl | rfl <;> rfl
      have hsl : ∀ u : World, (Instr.sliceAt 199 (.pointer (some ⟨H + 1 + 1, 0, none⟩)) (some (.int .i64 (A : Int))) none none).run Tryd.prog u = .ok (.slice (some ⟨H + 1 + 1, A, none⟩) (44 - A) (44 - A)) u := fun u => by
        have := slice_arr (P := Tryd.prog) (g := H + 1 + 1) (off := 0) (k := A) Tryd.underlying199 sizes5 (by omega) .i64 u
        rw [Nat.zero_add] at this
        exact this
      have hA40 : A ≤ 40 := by omega
      have HA : Hid (A = 32 + 4 * k ∧ n = p.num k) := ⟨hA, hn⟩
      rw [← hA] at hOr ⊢
      clear hA hn
      go_wp2
      refine wp_region_any (by kernel_rfl) ?_
      change wpAny _ _ _ _ _ _ _ (World.drew _)
      refine any_take 0 rfl (some 23) rfl (.int .i64 (A : Int)) (by kernel_rfl) (by kernel_rfl) (by kernel_rfl) (fun _ _ _ h => h) (Or.inl ⟨by rfl, fun w => by go_simp⟩) ?_
      simp only [Act.put, List.setIfInBounds_toArray, List.set_cons_succ, List.set_cons_zero]
      refine any_take 1 rfl (some 24) rfl (.int .i64 (A : Int)) (by kernel_rfl) (by kernel_rfl) (by kernel_rfl) (fun _ _ _ h => h) (Or.inl ⟨by rfl, fun w => by go_simp⟩) ?_
      simp only [Act.put, List.setIfInBounds_toArray, List.set_cons_succ, List.set_cons_zero]
      refine any_take 2 rfl (some 25) rfl (.slice (some ⟨H + 1 + 1, A, none⟩) (44 - A) (44 - A)) (by kernel_rfl) (by kernel_rfl) (by kernel_rfl) (fun _ _ _ h => h) (Or.inl ⟨by rfl, fun w => by go_simp⟩) ?_
      simp only [Act.put, List.setIfInBounds_toArray, List.set_cons_succ, List.set_cons_zero]
      refine any_take 3 rfl (some 26) rfl (.int .u32 (n : Int)) (by kernel_rfl) (by kernel_rfl) (by kernel_rfl) (fun _ _ _ h => h) (Or.inl ⟨by rfl, fun w => by go_simp⟩) ?_
      simp only [Act.put, List.setIfInBounds_toArray, List.set_cons_succ, List.set_cons_zero]
      refine any_call 4 (by kernel_rfl) rfl rfl (some 27) rfl 127 #[.slice none 0 0, .int .u32 (n : Int)] (by go_simp) (put32_nil n hnl _) ?_
      rintro e w5 ⟨a5, c5, rfl, hB5, hb5⟩
      refine ⟨_, rfl, ?_⟩
      simp only [Act.put, List.setIfInBounds_toArray, List.set_cons_succ, List.set_cons_zero]
      refine any_seq 5 (by rfl) (by kernel_rfl) ?_
      simp only [List.drop_succ_cons, List.drop_zero]
      have hO5 : Blk 199 w5 (H + 1 + 1) ((p.part A).map (Value.int .u8)) := Blk.stays (w := wr.drew) hOr hb5
      have hlp : ((p.part A).map (Value.int .u8)).length = 44 := by rw [List.length_map]; exact Pt.part_len hp A (by omega)
      refine wpList_copy_blk (by rfl) (.tmp 25) (.tmp 27) 43 43 (by rfl) 5 Tryd.underlying43 sizes5 (H + 1 + 1) A (44 - A) (44 - A) _ 4 c5 (by rfl) (by rfl) hO5 (b32 n) 4 hB5 (by decide) (by show 4 = Nat.min 4 (44 - A); simp [Nat.min_def]; omega) (Nat.le_refl 4) (by rw [hlp]; omega) ?_
      intro w6 hO6 hbut6 hsz6
      obtain ⟨hA, hn⟩ := HA.out
      have e1 : splice ((p.part A).map (Value.int .u8)) A (((b32 n).take 4).map (Value.int .u8)) = (p.part (32 + 4 * (k + 1))).map (Value.int .u8) := by
        have h1 := part_step (Pt.enc_len hp) A 4 (by omega) (b32 n) (by rw [hn, hA]; exact Pt.enc_num hp k hlt)
        have h2 : (b32 n).take 4 = b32 n := rfl
        rw [h2, show 32 + 4 * (k + 1) = A + 4 by omega]
        exact h1
      rw [e1] at hO6
      have hbr6 : But (H + 1 + 1) W w6 := (hbr.trans ((But.refl _ _).drew.trans (But.of_below hb5))).trans hbut6
      have HO6 : Hid _ := hO6
      have HBR : Hid _ := hbr6
      clear e1 hO6 hbr6 hO5 hlp hOr hbr hB5 hb5 hbut6 hsz6 hA hn
      go_wp2
      go_roundw
      case rel => exact ⟨k + 1, by omega, by go_num, by have := HA.out.1; go_num, HO6.out, HBR.out⟩
      case measure => simp [intOf]; omega
    · have hk3 : k = 3 := by omega
      subst hk3
      have hfin : (p.part (32 + 4 * 3)).map (Value.int .u8) = p.enc.map (Value.int .u8) := by rw [show 32 + 4 * 3 = 44 from rfl, Pt.part_all hp]
      rw [hfin] at hOr
      clear hfin
      have hEl : (p.enc.map (Value.int .u8)).length = 44 := by rw [List.length_map]; exact Pt.enc_len hp
      have hRr : Blk 199 wr (H + 1) ((List.replicate 44 0).map (Value.int .u8)) := Blk.but hR hbr (by omega)
      obtain ⟨us, hus⟩ : ∃ us, us = p.enc.map (Value.int .u8) := ⟨_, rfl⟩
      have hu1 : ∀ v ∈ us, v.oneCell' = true := hus ▸ int_oneCell _ _
      rw [← hus] at hOr hEl
      have HE : Hid (us = (us.drop 0).take 44) := by show _ = _; rw [List.drop_zero, List.take_of_length_le (by omega)]
      have HF : Hid (us = ((List.replicate 44 (0 : Int)).map (Value.int .u8)).take 0 ++ us ++ ((List.replicate 44 (0 : Int)).map (Value.int .u8)).drop (0 + 44)) := by show _ = _; simp
      have HUS : Hid (us = p.enc.map (Value.int .u8)) := hus
      have HZ : Hid (0 + 44 ≤ ((List.replicate 44 (0 : Int)).map (Value.int .u8)).length) := by show _ ≤ _; decide
      clear hus
      go_wp2_with (first
        | (refine wpList_load_blk (by rfl) (.tmp 3) 199 (by rfl) (H + 1 + 1) 0 44 (by rfl) agg_44 size_44 hOr us HE.out hEl ?_)
        | (refine wpList_store_blk (by rfl) (.tmp 2) (.tmp 31) 199 (by rfl) (H + 1) 0 44 (by rfl) us (by rfl) size_44 hRr hEl HZ.out hu1 us HF.out ?_; intro w7 hR7 hbut7 hsz7))
      refine bodyPost_ret_blk rfl rfl (by rfl) agg_44 size_44 hR7 hEl ⟨by rw [HUS.out], ?_⟩
      rw [hH]
      exact hbW.trans ((hbr.below (by omega) (by omega)).trans (hbut7.below (by omega) (by omega)))

end Go.Proofs.YthbldjnpnligpaaDoor

/-
  Whole noughts: built and laid in memory; the whole number at the beginning.
-/

namespace Go.Proofs.YthbldjnpnligpaaDoor
set_option linter.unusedSimpArgs false
set_option linter.unusedVariables false
set_option maxRecDepth 100000
open Go.RowKit

def zeros4 : List Pt := [Pt.zero, Pt.zero, Pt.zero, Pt.zero]
theorem zeros4_ok : ∀ p ∈ zeros4, p.ok := by
  intro p hp
  simp only [zeros4, List.mem_cons, List.not_mem_nil, or_false, or_self] at hp
  subst hp; exact Pt.zero_ok
theorem zeros4_len : (fourV zeros4).length = 140 := fourV_len zeros4_ok

theorem build_ptr0 (w : World) : (Instr.build 42 #[]).run Tryd.prog w = .ok (.agg Pt.zero.vs.toArray) w := by kernel_rfl

--?
theorem build_four0 (w : World) : (Instr.build 139 #[]).run Tryd.prog w = .ok (.agg (fourV zeros4).toArray) w := by kernel_rfl

theorem alloc_ptr0 (w : World) : (Instr.alloc 42 true (.tuple #[])).run Tryd.prog w = .ok (.pointer (some ⟨w.heap.size, 0, none⟩)) (w.alloc (.cells Pt.zero.vs.toArray 42)) := by kernel_rfl

--?
theorem alloc_four0 (w : World) : (Instr.alloc 139 true (.tuple #[])).run Tryd.prog w = .ok (.pointer (some ⟨w.heap.size, 0, none⟩)) (w.alloc (.cells (fourV zeros4).toArray 139)) := by kernel_rfl

theorem alloc_44 (w : World) : (Instr.alloc 199 true (.tuple #[])).run Tryd.prog w = .ok (.pointer (some ⟨w.heap.size, 0, none⟩)) (w.alloc (.cells ((List.replicate 44 (0 : Int)).map (Value.int .u8)).toArray 199)) := by kernel_rfl

/-- A value that is built of nothing. -/
theorem wpList_build0 {P : Program} {w : World} {ops : Array Oper} {rest : List Oper} {o : Oper} {a : Act} {Q : Exit → Act → World → Prop} (hw : Region.wanted o (yielded ops a.tmps) = true) (t : TypeId) (ho : o.op = Op.build t #[]) (V : Value) (hr : ∀ w, (Instr.build t #[]).run P w = .ok V w)
    (h : wpList P ops Q rest (a.put o.dst V) w) : wpList P ops Q (o :: rest) a w := by
  refine wpList_step fun K hK => ?_
  rw [if_pos hw]
  have e : (#[] : Array (Nat × Operand)).map (fun (i, x) => (i, a.eval x)) = #[] := by simp
  unfold Oper.wp execOp
  simp only [ho, Sem.run_bind, Sem.run_pure, Result.andThen_ok, e, hr]
  exact hK _ _ h

/-- A variable in a new block. -/
theorem wpList_alloc0 {P : Program} {w : World} {ops : Array Oper} {rest : List Oper} {o : Oper} {a : Act} {Q : Exit → Act → World → Prop} (hgd : o.guard = none) (t : TypeId) (ho : o.op = Op.alloc t) (d : Option Tmp) (hd : o.dst = d) (vs : List Value)
    (hr : ∀ w, (Instr.alloc t true (.tuple #[])).run P w = .ok (.pointer (some ⟨w.heap.size, 0, none⟩)) (w.alloc (.cells vs.toArray t)))
    (h : ∀ w', Blk t w' w.heap.size vs → Below w.heap.size w w' → w'.heap.size = w.heap.size + 1 → wpList P ops Q rest (a.put d (.pointer (some ⟨w.heap.size, 0, none⟩))) w') : wpList P ops Q (o :: rest) a w := by
  subst hd
  refine wpList_plain hgd fun K hK => ?_
  unfold Oper.wp execOp
  simp only [ho, Sem.run_bind, Sem.run_pure, Result.andThen_ok, hr]
  exact hK _ _ (h _ (Blk.newAt rfl rfl) ((Below.refl _ _).alloc (Nat.le_refl _) _) (by simp))

/-- A parameter in a new block. -/
theorem wpList_box0 {P : Program} {w : World} {ops : Array Oper} {rest : List Oper} {o : Oper} {a : Act} {Q : Exit → Act → World → Prop} (hgd : o.guard = none) (t : TypeId) (x : Operand) (ho : o.op = Op.box t x) (vs : List Value) (hx : a.eval x = .agg vs.toArray)
    (h : ∀ w', Blk t w' w.heap.size vs → Below w.heap.size w w' → w'.heap.size = w.heap.size + 1 → wpList P ops Q rest (a.put o.dst (.pointer (some ⟨w.heap.size, 0, none⟩))) w') : wpList P ops Q (o :: rest) a w := by
  refine wpList_plain hgd fun K hK => ?_
  have hr : (Instr.box t (.agg vs.toArray)).run P w = .ok (.pointer (some ⟨w.heap.size, 0, none⟩)) (w.alloc (.cells vs.toArray t)) := by
    simp [Instr.box, newVar, go_sem, Value.cells]
  unfold Oper.wp execOp
  simp only [ho, hx, Sem.run_bind, Sem.run_pure, Result.andThen_ok, hr]
  exact hK _ _ (h _ (Blk.newAt rfl rfl) ((Below.refl _ _).alloc (Nat.le_refl _) _) (by simp))

theorem run_store_int {P : Program} {w : World} {t e : TypeId} {g off : Nat} {vs : List Value} {K : IntKind} {n : Int} (hZ : ∀ w, (sizeOf t).run P w = .ok 1 w) (hb : Blk e w g vs) (hle : off < vs.length) :
    (Instr.storeAt t (.pointer (some ⟨g, off, none⟩)) (.int K n)).run P w = .ok () (w.setRow g (vs.set off (.int K n)).toArray) := by
  have h := run_storeCells_at (P := P) g off e [.int K n] 0 vs.toArray w hb (by simp; omega) (by simp; rfl)
  simp only [Nat.add_zero, List.length_singleton] at h
  have hs : vs.take off ++ [Value.int K n] ++ vs.drop (off + 1) = vs.set off (.int K n) := by rw [List.set_eq_take_append_cons_drop, if_pos hle]; simp
  simp only [List.toList_toArray, hs] at h
  simp [Instr.storeAt, Instr.sureAddr, storeVar, hZ, h, Sem.run_bind, Value.cells]

/-- A number, stored in a block. -/
theorem wpList_store_int {P : Program} {w : World} {ops : Array Oper} {rest : List Oper} {o : Oper} {a : Act} {Q : Exit → Act → World → Prop} (hgd : o.guard = none) (x y : Operand) (t : TypeId) (ho : o.op = Op.store t x y)
    (g off : Nat) (hx : a.eval x = .pointer (some ⟨g, off, none⟩)) (K : IntKind) (n : Int) (hy : a.eval y = .int K n) (hZ : ∀ w, (sizeOf t).run P w = .ok 1 w) {e : TypeId} {vs : List Value} (hb : Blk e w g vs) (hle : off < vs.length)
    (h : ∀ w', Blk e w' g (vs.set off (.int K n)) → But g w w' → w'.heap.size = w.heap.size → wpList P ops Q rest (a.put o.dst undef) w') : wpList P ops Q (o :: rest) a w := by
  refine wpList_plain hgd fun K' hK => ?_
  have hr := run_store_int (P := P) (w := w) (K := K) (n := n) hZ hb hle
  unfold Oper.wp execOp
  simp only [ho, hx, hy, Sem.run_bind, Sem.run_pure, Result.andThen_ok, hr]
  exact hK _ _ (h _ (setRow_heap w g _ _ e _ hb) ((But.refl g w).setRow _) (by simp [World.setRow]))

theorem Bs.lt {w : World} {a : Option Addr} {c : Nat} {xs : List Int} (h : Bs w a c xs) (hne : xs ≠ []) {b : Addr} (ha : a = some b) : b.block < w.heap.size := by
  rcases h.lay with h0 | ⟨b', off, rfl, hc⟩
  · exact absurd h0 hne
  · cases ha
    exact World.block_lt_of_cell? w _ (hc 0 (List.length_pos_iff.2 hne))

theorem size_u32 (w : World) : (sizeOf 34).run Tryd.prog w = .ok 1 w := sizeOf_run sizes23 w

/-- Two results, of which the first one lives in a block. -/
theorem bodyPost_ret_blk2 {P : Program} {fn : Func} {R : Ending → World → Prop} {a : Act} {w : World} {p q : Tmp} {t e : TypeId} {g n : Nat} {us : List Value} {v : Value} (hf : fn.results = #[.cell p t, .tmp q]) (hd : a.defers = [])
    (hp : a.tmps.getD p undef = .pointer (some ⟨g, 0, none⟩)) (hq : a.tmps.getD q undef = v) (hA : ∀ w, (isAgg t).run P w = .ok true w) (hZ : ∀ w, (sizeOf t).run P w = .ok n w) (hb : Blk e w g us) (hl : us.length = n)
    (hR : R (.returned (.tuple #[.agg us.toArray, v])) w) : bodyPost P fn R .ret a w := by
  refine bodyPost_ret_by (v := .tuple #[.agg us.toArray, v]) ?_ hd hR
  have hr := run_load_blk (P := P) (w := w) (off := 0) hA hZ hb (us := us) (by rw [List.drop_zero, List.take_of_length_le (by omega)]) hl
  simp only [Instr.loadAt, Instr.sureAddr, Sem.run_bind, Sem.run_pure, Result.andThen_ok] at hr
  rw [Array.getD_eq_getD_getElem?] at hp hq
  simp [results, hf, hp, hq, asAddr, Sem.run_bind, hr]

theorem whole_load {vs : List Value} {n : Nat} (h : vs.length = n) : vs = (vs.drop 0).take n := by
  rw [List.drop_zero, List.take_of_length_le (by omega)]
theorem whole_store {us vs : List Value} {n : Nat} (h : vs.length = n) : us = vs.take 0 ++ us ++ vs.drop (0 + n) := by
  rw [List.take_zero, List.nil_append, List.drop_eq_nil_of_le (by omega), List.append_nil]

theorem Pt.vs_setb {h : List Int} (hl : h.length = 32) (b x y n : Nat) : (Pt.vs ⟨h, b, x, y⟩).set 32 (.int .u32 (n : Int)) = Pt.vs ⟨h, n, x, y⟩ := by
  unfold Pt.vs; rw [List.set_append_right _ _ (by simp [hl])]; simp [hl]
theorem Pt.vs_setx {h : List Int} (hl : h.length = 32) (b x y n : Nat) : (Pt.vs ⟨h, b, x, y⟩).set 33 (.int .u32 (n : Int)) = Pt.vs ⟨h, b, n, y⟩ := by
  unfold Pt.vs; rw [List.set_append_right _ _ (by simp [hl])]; simp [hl]
theorem Pt.vs_sety {h : List Int} (hl : h.length = 32) (b x y n : Nat) : (Pt.vs ⟨h, b, x, y⟩).set 34 (.int .u32 (n : Int)) = Pt.vs ⟨h, b, x, n⟩ := by
  unfold Pt.vs; rw [List.set_append_right _ _ (by simp [hl])]; simp [hl]

theorem Pt.vs_one (p : Pt) : ∀ v ∈ p.vs, v.oneCell' = true := by
  intro v hv
  simp only [Pt.vs, List.mem_append, List.mem_map, List.mem_cons, List.not_mem_nil, or_false] at hv
  rcases hv with ⟨x, _, rfl⟩ | rfl | rfl | rfl <;> rfl
theorem fourV_one : ∀ (l : List Pt), ∀ v ∈ fourV l, v.oneCell' = true
  | [], _, h => by simp [fourV] at h
  | p :: l, v, h => by
    rcases List.mem_append.1 h with h | h
    · exact p.vs_one v h
    · exact fourV_one l v h

theorem take32_nat (a : Option Addr) (c n m : Nat) (xs : List Int) (w : World) (hB : Bs w a c xs) (hn : n = xs.length) (hm : n = m + 4) (hlen : xs.length ≤ 1000000) :
    Calls Tryd.prog 130 #[.slice a n c] w fun e w' => ∃ a1 c1, e = .returned (.tuple #[.int .u32 (n32 xs : Int), .slice a1 m c1, .int .i64 0]) ∧ Bs w' a1 c1 (xs.drop 4) ∧ Below w.heap.size w w' ∧ ∀ b, a1 = some b → w.heap.size ≤ b.block := by
  subst hn
  refine (take32_new a c xs w hB hlen).mono ?_
  rintro e w' ⟨a1, c1, rfl, h1, h2, h3⟩
  have hi := (take32_int hB.rng).1
  have ht : (take32L xs).2.1 = xs.drop 4 ∧ (take32L xs).2.2 = 0 := by unfold take32L; rw [if_neg (by omega)]; exact ⟨rfl, rfl⟩
  rw [ht.1] at h1 ⊢
  rw [ht.2, hi]
  refine ⟨a1, c1, ?_, h1, h2, h3⟩
  rw [List.length_drop, show xs.length - 4 = m by omega]; rfl

end Go.Proofs.YthbldjnpnligpaaDoor
