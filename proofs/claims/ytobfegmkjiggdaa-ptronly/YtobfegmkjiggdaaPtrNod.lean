/-
  The walks over ptr.Node and ptr.IsEmpty.
-/
import Derived.Test.YtobfegmkjiggdaaPtrDec
namespace Go.Proofs.Ytobfegmkjiggdaa
set_option linter.unusedSimpArgs false
set_option linter.unusedVariables false
open Go.RowKit

/-- Pointers as they are written, one behind the other. -/
def encs : List Pt → List Int
  | [] => []
  | p :: l => p.enc ++ encs l

theorem encs_append (l m : List Pt) : encs (l ++ m) = encs l ++ encs m := by
  induction l with
  | nil => rfl
  | cons p l ih => simp [encs, ih]
theorem encs_len : ∀ {l : List Pt}, (∀ p ∈ l, p.ok) → (encs l).length = 44 * l.length
  | [], _ => rfl
  | p :: l, h => by rw [encs, List.length_append, Pt.enc_len (h p (by simp)), encs_len (fun q hq => h q (by simp [hq])), List.length_cons]; omega
theorem encs_rng : ∀ {l : List Pt}, (∀ p ∈ l, p.ok) → ∀ z ∈ encs l, 0 ≤ z ∧ z ≤ 255
  | [], _, z, hz => by simp [encs] at hz
  | p :: l, h, z, hz => by
    rcases List.mem_append.1 hz with hz | hz
    · exact Pt.enc_rng (h p (by simp)) z hz
    · exact encs_rng (fun q hq => h q (by simp [hq])) z hz

/-- A node as it is written. -/
def nodeL (l : List Pt) : List Int := encs l ++ List.replicate 80 0
theorem nodeL_len {l : List Pt} (h : ∀ p ∈ l, p.ok) (h4 : l.length = 4) : (nodeL l).length = 256 := by simp [nodeL, encs_len h, h4]
theorem nodeL_rng {l : List Pt} (h : ∀ p ∈ l, p.ok) : ∀ z ∈ nodeL l, 0 ≤ z ∧ z ≤ 255 := by
  intro z hz
  rcases List.mem_append.1 hz with hz | hz
  · exact encs_rng h z hz
  · rw [List.mem_replicate] at hz; omega

def nth (l : List Pt) (k : Nat) : Pt := l.getD k Pt.zero
theorem nth_ok {l : List Pt} (hl : ∀ p ∈ l, p.ok) (i : Nat) : (nth l i).ok := by
  unfold nth
  rw [List.getD_eq_getElem?_getD]
  cases h : l[i]? with
  | none => exact Pt.zero_ok
  | some p => exact hl p (List.mem_of_getElem? h)
theorem take_nth {l : List Pt} {k : Nat} (hk : k < l.length) : l.take (k + 1) = l.take k ++ [nth l k] := by
  unfold nth
  rw [List.take_succ_eq_append_getElem hk, List.getD_eq_getElem?_getD, List.getElem?_eq_getElem hk]; rfl
theorem four_part {l : List Pt} (hl : ∀ p ∈ l, p.ok) {k : Nat} (hk : k < l.length) : (nth l k).vs = ((fourV l).drop (k * 35)).take 35 := by
  rw [← fourV_part hl k hk]; unfold nth
  rw [List.getD_eq_getElem?_getD, List.getElem?_eq_getElem hk]; rfl

/-- One of the four, out of the value. -/
theorem index_part {P : Program} {t e : TypeId} {n m : Nat} {cs us : List Value} {K : IntKind} {j : Nat} (ht : P.underlying t = some (.array n e)) (hA : ∀ w, (isAgg e).run P w = .ok true w) (hs : (P.info? e).map (·.size) = some m) (hj : j < n) (hx : us = (cs.drop (j * m)).take m) (w : World) :
    (Instr.index t (.agg cs.toArray) (.int K (j : Int))).run P w = .ok (.agg us.toArray) w := by
  have hz := sizeOf_run hs w
  have hp := part_agg (P := P) (w := w) (t := e) (off := j * m) hA (sizeOf_run hs) hx
  have hb : (0 : Int) ≤ (j : Int) ∧ (j : Int) < (n : Int) := by omega
  simp [Instr.index, asIntOf, run_underlying ht, hz, hb, hp, Sem.run_bind]
  omega

theorem index_four {l : List Pt} (hl : ∀ p ∈ l, p.ok) (h4 : l.length = 4) {k : Nat} (hk : k < 4) (u : World) :
    (Instr.index 36 (.agg (fourV l).toArray) (.int .i64 (k : Int))).run Try.prog u = .ok (.agg (nth l k).vs.toArray) u :=
  index_part Try.underlying36 agg_ptr sizes26 hk (four_part hl (by omega)) u

set_option maxHeartbeats 1000000 in
set_option maxRecDepth 100000 in
theorem isEmpty_run (l : List Pt) (hl : ∀ p ∈ l, p.ok) (h4 : l.length = 4) (w : World) : Calls Try.prog 23 #[.agg (fourV l).toArray] w fun e w' => e = .returned (.bool (l.all Pt.hole)) ∧ Below w.heap.size w w' := by
  have hfl : (fourV l).length = 140 := by rw [fourV_len hl, h4]
  obtain ⟨fv, hfv⟩ : ∃ fv, fv = fourV l := ⟨_, rfl⟩
  have hix : ∀ k : Nat, k < 4 → ∀ u, (Instr.index 36 (.agg fv.toArray) (.int .i64 (k : Int))).run Try.prog u = .ok (.agg (nth l k).vs.toArray) u := fun k hk u => by rw [hfv]; exact index_four hl h4 hk u
  have HIX : Hid (∀ k : Nat, k < 4 → ∀ u, (Instr.index 36 (.agg fv.toArray) (.int .i64 (k : Int))).run Try.prog u = .ok (.agg (nth l k).vs.toArray) u) := hix
  have hzl : Pt.zero.vs.length = 35 := Pt.vs_len Pt.zero_ok
  rw [← hfv] at hfl ⊢
  clear hfv hix
  go_enter Try.func23, Try.ntmps23
  go_wp2_with (first
    | (refine wpList_box0 (by rfl) 36 (.tmp 0) (by rfl) fv (by rfl) ?_; intro w1 hF1 hb1 hs1)
    | (refine wpList_load_blk (by rfl) (.tmp 1) 36 (by rfl) _ 0 140 (by rfl) agg_four size_four hF1 _ (whole_load hfl) hfl ?_))
  go_loopw [6] (fun i wr => ∃ k : Nat, k ≤ 4 ∧ i = .int .i64 k ∧ Hid ((l.take k).all Pt.hole = true) ∧ Below w.heap.size w wr) (fun i _ => 4 - (intOf i).toNat)
  case atStart => exact ⟨0, by omega, rfl, rfl, hb1⟩
  case round =>
    rename_i hrel
    obtain ⟨k, hk, rfl, hall, hbr⟩ := hrel
    clear hF1 hb1 hs1
    have hsz := hbr.size
    by_cases hlt : k < 4
    · have hix := HIX.out k hlt
      obtain ⟨p, hp⟩ : ∃ p, p = nth l k := ⟨_, rfl⟩
      have hok : p.ok := hp ▸ nth_ok hl k
      have HT : Hid (l.take (k + 1) = l.take k ++ [p]) := by rw [hp]; exact take_nth (by omega)
      have hvl := Pt.vs_len hok
      have hh := isHole_run p hok
      rw [← hp] at hix
      clear hp
      cases hhv : p.hole
      · rw [hhv] at hh
        have HF : Hid (l.all Pt.hole = false) := by
          show _ = _
          have : l = l.take (k + 1) ++ l.drop (k + 1) := (List.take_append_drop _ _).symm
          rw [this, List.all_append, HT.out, List.all_append]
          simp [hhv]
        go_wp2_with (first
          | (refine wpList_alloc0 (by rfl) 26 (by rfl) (some 4) (by rfl) Pt.zero.vs alloc_ptr0 ?_; intro w3 hP3 hb3 hs3)
          | (refine wpList_store_blk (by rfl) (.tmp 4) (.tmp 8) 26 (by rfl) _ 0 35 (by rfl) _ (by rfl) size_ptr hP3 hvl (by omega) (Pt.vs_one _) _ (whole_store hzl) ?_
             intro w4 hP4 hbut4 hs4)
          | (refine wpList_load_blk (by rfl) (.tmp 4) 26 (by rfl) _ 0 35 (by rfl) agg_ptr size_ptr hP4 _ (whole_load hvl) hvl ?_)
          | (go_at_call 13; go_must (refine (hh _).mono ?_); rintro e w5 ⟨rfl, hb5⟩))
        go_ret
        refine ⟨by rw [HF.out]; rfl, ?_⟩
        exact ((hbr.trans (hb3.mono (by omega))).trans (hbut4.below (by omega) (by omega))).trans (hb5.mono (by omega))
      · rw [hhv] at hh
        go_wp2_with (first
          | (refine wpList_alloc0 (by rfl) 26 (by rfl) (some 4) (by rfl) Pt.zero.vs alloc_ptr0 ?_; intro w3 hP3 hb3 hs3)
          | (refine wpList_store_blk (by rfl) (.tmp 4) (.tmp 8) 26 (by rfl) _ 0 35 (by rfl) _ (by rfl) size_ptr hP3 hvl (by omega) (Pt.vs_one _) _ (whole_store hzl) ?_
             intro w4 hP4 hbut4 hs4)
          | (refine wpList_load_blk (by rfl) (.tmp 4) 26 (by rfl) _ 0 35 (by rfl) agg_ptr size_ptr hP4 _ (whole_load hvl) hvl ?_)
          | (go_at_call 13; go_must (refine (hh _).mono ?_); rintro e w5 ⟨rfl, hb5⟩))
        go_roundw
        case rel => exact ⟨k + 1, by omega, by go_num, by show _ = _; rw [HT.out, List.all_append, hall.out]; simp [hhv], ((hbr.trans (hb3.mono (by omega))).trans (hbut4.below (by omega) (by omega))).trans (hb5.mono (by omega))⟩
        case measure => simp [intOf]; omega
    · have HF : Hid (l.all Pt.hole = true) := by
        have := hall.out
        rw [List.take_of_length_le (by omega)] at this
        exact this
      go_wp2
      go_ret
      exact ⟨by rw [HF.out]; rfl, hbr⟩
/-- What of a node is laid so far. -/
theorem node_step {l : List Pt} (hl : ∀ p ∈ l, p.ok) {k : Nat} (hk : k < l.length) : encs (l.take (k + 1)) = encs (l.take k) ++ (nth l k).enc := by
  rw [take_nth hk, encs_append]; simp [encs]
theorem encs_take_len {l : List Pt} (hl : ∀ p ∈ l, p.ok) {k : Nat} (hk : k ≤ l.length) : (encs (l.take k)).length = 44 * k := by
  rw [encs_len (fun p hp => hl p (List.mem_of_mem_take hp)), List.length_take, Nat.min_eq_left hk]

set_option maxHeartbeats 1000000 in
set_option maxRecDepth 100000 in
theorem node_run (l : List Pt) (hl : ∀ p ∈ l, p.ok) (h4 : l.length = 4) (w : World) : Calls Try.prog 21 #[.agg (fourV l).toArray] w fun e w' => ∃ a c, e = .returned (.slice a 256 c) ∧ Bs w' a c (nodeL l) ∧ Below w.heap.size w w' := by
  obtain ⟨i0, hi, hz0, hz1, hz2⟩ := info_parts Try.info5
  have hfl : (fourV l).length = 140 := by rw [fourV_len hl, h4]
  obtain ⟨fv, hfv⟩ : ∃ fv, fv = fourV l := ⟨_, rfl⟩
  have HIX : Hid (∀ k : Nat, k < 4 → ∀ u, (Instr.index 36 (.agg fv.toArray) (.int .i64 (k : Int))).run Try.prog u = .ok (.agg (nth l k).vs.toArray) u) := fun k hk u => by rw [hfv]; exact index_four hl h4 hk u
  have hzl : Pt.zero.vs.length = 35 := Pt.vs_len Pt.zero_ok
  have hz4 : ((List.replicate 44 (0 : Int)).map (Value.int .u8)).length = 44 := rfl
  have HB : Hid (Bs w none 0 []) := Bs.empty w
  rw [← hfv] at hfl ⊢
  clear hfv
  go_enter Try.func21, Try.ntmps21
  go_wp2_with (first
    | (refine wpList_box0 (by rfl) 36 (.tmp 0) (by rfl) fv (by rfl) ?_; intro w1 hF1 hb1 hs1)
    | (at_make; go_must (refine wpList_make_bytes (w0 := w1) (by rfl) _ _ 30 (by rfl) w1.heap.size 5 i0 Try.underlying30 hi hz0 hz1 hz2 _ _ _ _ 256 (by rfl) (by rfl) (by omega) (by omega) (by omega) (Nat.le_refl _) (Below.refl _ _) ?_); intro w2 hO2 hb2; rw [hs1] at hO2; have hF2 := hF1.stays hb2; have hW2 := below_then hb1 hb2)
    | (refine wpList_load_blk (by rfl) (.tmp 1) 36 (by rfl) _ 0 140 (by rfl) agg_four size_four hF2 _ (whole_load hfl) hfl ?_))
  go_loopw [9] (fun i wr => ∃ k : Nat, k ≤ 4 ∧ i = .int .i64 k ∧ Row 5 wr (w.heap.size + 1) (encs (l.take k) ++ List.replicate (256 - 44 * k) 0) ∧ Below w.heap.size w wr) (fun i _ => 4 - (intOf i).toNat)
  case atStart => exact ⟨0, by omega, rfl, hO2, hW2⟩
  case round =>
    rename_i hrel
    obtain ⟨k, hk, rfl, hO, hbr⟩ := hrel
    clear hF1 hb1 hs1 hO2 hb2 hF2 hW2
    have hsz := hbr.size
    have hOl := hO.lt
    by_cases hlt : k < 4
    · have hix := HIX.out k hlt
      obtain ⟨p, hp⟩ : ∃ p, p = nth l k := ⟨_, rfl⟩
      have hok : p.ok := hp ▸ nth_ok hl k
      have HT : Hid (encs (l.take (k + 1)) = encs (l.take k) ++ p.enc) := by rw [hp]; exact node_step hl (by omega)
      have HD : Hid ((encs (l.take k)).length = 44 * k) := encs_take_len hl (by omega)
      have hvl := Pt.vs_len hok
      have hen := encode_run p hok
      have hel := Pt.enc_len hok
      have hevl : (p.enc.map (Value.int .u8)).length = 44 := by rw [List.length_map]; exact hel
      have her := Pt.enc_rng hok
      obtain ⟨D, hD⟩ : ∃ D, D = 44 * k := ⟨_, rfl⟩
      obtain ⟨A, hsl, hA⟩ := own_from (g := w.heap.size + 1) (n := 256) D (by omega)
      have hA' := hA (by omega)
      subst hA'
      have hDk : (k : Int) * 44 = (D : Int) := by omega
      have hD2 : D ≤ 132 := by omega
      have hwD : IntKind.i64.wrap (D : Int) = (D : Int) := by first | go_num | (rw [IntKind.wrap_i64]; omega)
      have HDk : Hid (D = 44 * k) := hD
      rw [← hp] at hix
      rw [← hD] at hO
      clear hp hA hD
      go_wp2_with (first
        | (refine wpList_alloc0 (by rfl) 26 (by rfl) (some 5) (by rfl) Pt.zero.vs alloc_ptr0 ?_; intro w3 hP3 hb3 hs3)
        | (refine wpList_store_blk (by rfl) (.tmp 5) (.tmp 12) 26 (by rfl) _ 0 35 (by rfl) _ (by rfl) size_ptr hP3 hvl (by omega) (Pt.vs_one _) _ (whole_store hzl) ?_
           intro w4 hP4 hbut4 hs4)
        | (refine wpList_load_blk (by rfl) (.tmp 5) 26 (by rfl) _ 0 35 (by rfl) agg_ptr size_ptr hP4 _ (whole_load hvl) hvl ?_)
        | (go_at_call 8; go_must (refine (hen _).mono ?_); rintro e w5 ⟨rfl, hb5⟩)
        | (refine wpList_alloc0 (by rfl) 27 (by rfl) (some 6) (by rfl) _ alloc_44 ?_; intro w6 hE6 hb6 hs6)
        | (refine wpList_store_blk (by rfl) (.tmp 6) (.tmp 14) 27 (by rfl) _ 0 44 (by rfl) _ (by rfl) size_44 hE6 hevl (by rw [hz4]; omega) (int_oneCell _ _) _ (whole_store hz4) ?_
           intro w7 hE7 hbut7 hs7))
      have hq3 : Below w.heap.size w w4 := (hbr.trans (hb3.mono (by omega))).trans (hbut4.below (by omega) (by omega))
      have hq5 := hq3.trans (hb5.mono hq3.size)
      have hq7 : Below w.heap.size w w7 := (hq5.trans (hb6.mono hq5.size)).trans (hbut7.below hq5.size (by have := hq5.size; omega))
      have hO4 : Row 5 w4 (w.heap.size + 1) (encs (l.take k) ++ List.replicate (256 - D) 0) := by
        have h3 := hO.stays hb3
        unfold Row at h3 ⊢
        rw [hbut4.block _ (by omega) (by omega)]; exact h3
      have hO7 : Row 5 w7 (w.heap.size + 1) (encs (l.take k) ++ List.replicate (256 - D) 0) := by
        have h6 := (hO4.stays hb5).stays hb6
        have := hb5.size
        unfold Row at h6 ⊢
        rw [hbut7.block _ (by omega) (by omega)]; exact h6
      obtain ⟨E, hEE⟩ : ∃ E, E = w5.heap.size := ⟨_, rfl⟩
      rw [← hEE] at hE7 ⊢
      have hBE : Bs w7 (some ⟨E, 0, none⟩) 44 p.enc := ⟨her, by omega, by decide, by simp, .inr ⟨E, 0, rfl, fun i hi => by
        rw [hE7.cell]
        simp [List.getD, hi]⟩⟩
      clear hO hO4 hP3 hP4 hb3 hbut4 hs3 hs4 hb5 hb6 hs6 hE6 hbut7 hs7 hEE hq3 hq5
      refine wp_region_any (by kernel_rfl) ?_
      change wpAny _ _ _ _ _ _ _ (World.drew _)
      refine any_take 0 rfl (some 15) rfl (.slice (some ⟨w.heap.size + 1, 0, none⟩) 256 256) (by kernel_rfl) (by kernel_rfl) (by kernel_rfl) (fun _ _ _ h => h) (Or.inl ⟨by rfl, fun w => by go_simp⟩) ?_
      simp only [Act.put, List.setIfInBounds_toArray, List.set_cons_succ, List.set_cons_zero]
      refine any_take 1 rfl (some 16) rfl (.int .i64 (k : Int)) (by kernel_rfl) (by kernel_rfl) (by kernel_rfl) (fun _ _ _ h => h) (Or.inl ⟨by rfl, fun w => by go_simp⟩) ?_
      simp only [Act.put, List.setIfInBounds_toArray, List.set_cons_succ, List.set_cons_zero]
      refine any_take 2 rfl (some 17) rfl (.int .i64 (D : Int)) (by kernel_rfl) (by kernel_rfl) (by kernel_rfl) (fun _ _ _ h => h) (Or.inl ⟨by rfl, fun w => by go_simp; try go_num⟩) ?_
      simp only [Act.put, List.setIfInBounds_toArray, List.set_cons_succ, List.set_cons_zero]
      refine any_take 3 rfl (some 18) rfl (.slice (some ⟨w.heap.size + 1, D, none⟩) (256 - D) (256 - D)) (by kernel_rfl) (by kernel_rfl) (by kernel_rfl) (fun _ _ _ h => h) (Or.inl ⟨by rfl, fun w => by go_simp⟩) ?_
      simp only [Act.put, List.setIfInBounds_toArray, List.set_cons_succ, List.set_cons_zero]
      refine any_take 4 rfl (some 19) rfl (.slice (some ⟨E, 0, none⟩) 44 44) (by kernel_rfl) (by kernel_rfl) (by kernel_rfl) (fun _ _ _ h => h) (Or.inl ⟨by rfl, fun w => by go_simp⟩) ?_
      simp only [Act.put, List.setIfInBounds_toArray, List.set_cons_succ, List.set_cons_zero]
      refine any_seq 5 (by rfl) (by kernel_rfl) ?_
      simp only [List.drop_succ_cons, List.drop_zero]
      have hdl : D = (encs (l.take k)).length := by rw [HD.out, HDk.out]
      refine wpList_copy_bytes (w0 := w) (by rfl) (.tmp 18) (.tmp 19) 30 30 (by rfl) 5 Try.underlying30 sizes5 _ _ (256 - D) (256 - D) 44 44 (by rfl) (by rfl) (w.heap.size + 1) (encs (l.take k)) (List.replicate (256 - D) 0) p.enc (show Row _ w7.drew _ _ from hO7) (fun _ => by rw [← hdl]) (by simp) (by omega) (by simp; omega) (hBE.stays (Below.refl _ _).drew) w.heap.size hq7.drew (by omega) ?_
      intro w8 hO8 hb8
      have hO9 : Row 5 w8 (w.heap.size + 1) (encs (l.take (k + 1)) ++ List.replicate (256 - 44 * (k + 1)) 0) := by
        rw [HT.out]
        have : (List.replicate (256 - D) (0 : Int)).drop p.enc.length = List.replicate (256 - 44 * (k + 1)) 0 := by rw [List.drop_replicate, hel]; have := HDk.out; congr 1; omega
        rw [← this]; exact hO8
      have HO9 : Hid _ := hO9
      clear hO8 hO9 hO7 hBE hE7 hdl
      go_wp2
      go_roundw
      case rel => exact ⟨k + 1, by omega, by go_num, HO9.out, hb8⟩
      case measure => simp [intOf]; omega
    · have hk4 : k = 4 := by omega
      subst hk4
      have hR : Row 5 wr (w.heap.size + 1) (nodeL l) := by
        rw [List.take_of_length_le (by omega)] at hO
        exact hO
      have hn := nodeL_len hl h4
      have hB := hR.bs (nodeL_rng hl) (by rw [hn]; decide)
      rw [hn] at hB
      have HBB : Hid _ := hB
      clear hO hR hB hn
      go_wp2
      go_ret
      exact ⟨_, _, rfl, HBB.out, hbr⟩
end Go.Proofs.Ytobfegmkjiggdaa
