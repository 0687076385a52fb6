/-
  What BankFull finds, as plain data; no function here.
-/
import Derived.Test.YthbldjnpnligpaaDoorG32
import Derived.Test.YthbldjnpnligpaaDoorG33
import Derived.Test.YthbldjnpnligpaaDoorG07
namespace Go.Proofs.YthbldjnpnligpaaDoor
set_option linter.unusedSimpArgs false
set_option linter.unusedVariables false
set_option maxRecDepth 100000
open Go.RowKit

theorem lab_below (n k j : Nat) (hj : j < n) : (lab n k).getD j false = decide (j < k) := by rw [lab_at]; simp [hj]
theorem Fr_lab0 (n k : Nat) (hk : k ≤ n) : ∀ i, i ≤ k → Fr (lab n k) i = []
  | 0, _ => rfl
  | i + 1, h => by rw [Fr_used _ i (by rw [lab_below _ _ _ (by omega)]; simp; omega)]; exact Fr_lab0 n k hk i (by omega)
theorem Fr_lab (n k : Nat) (hk : k ≤ n) : ∀ d, k + d ≤ n → Fr (lab n k) (k + d) = (List.range d).map (k + ·)
  | 0, _ => by rw [Nat.add_zero, Fr_lab0 n k hk k (Nat.le_refl _)]; rfl
  | d + 1, h => by
    rw [← Nat.add_assoc, Fr_free _ (k + d) (by rw [lab_below _ _ _ (by omega)]; simp), Fr_lab n k hk d (by omega), List.range_succ, List.map_append]
    rfl
theorem free_lab (n k : Nat) (hk : k ≤ n) : freeN (lab n k) = n - k := by
  rw [← Fr_all, lab_len]
  have h := Fr_lab n k hk (n - k) (by omega)
  rw [show k + (n - k) = n by omega] at h
  rw [h]; simp
theorem take_lab (n k : Nat) (hk : k ≤ n) (m : Nat) (hm : k + m ≤ n) : (Fr (lab n k) n).take m = (List.range m).map (k + ·) := by
  have h := Fr_take (lab n k) (k + m) (by rw [lab_len]; exact hm) m (by rw [Fr_lab n k hk m hm]; simp)
  rw [lab_len] at h
  rw [← h, Fr_lab n k hk m hm]
/-- The sectors that a block takes. -/
def secs (k c : Nat) : List Nat := (List.range c).map (k + ·)
theorem takeL_lab (n k c : Nat) (hc : c = 1 ∨ c = 2) (hk : k + c ≤ n) : takeL (lab n k) (c : Int) = (lab n (k + c), secs k c, 0) := by
  have h1 := take_lab n k (by omega) c hk
  unfold takeL
  rw [if_neg (by omega), if_neg (by rw [free_lab n k (by omega)]; omega), lab_len]
  simp only [Int.toNat_natCast]
  rw [h1]
  rcases hc with rfl | rfl
  · show (setAll (lab n k) [k + 0], [k + 0], 0) = (_, [k + 0], 0)
    show ((lab n k).set (k + 0) true, _, _) = _
    rw [Nat.add_zero, lab_next n k (by omega)]
  · show (setAll (lab n k) [k + 0, k + 1], [k + 0, k + 1], 0) = (_, [k + 0, k + 1], 0)
    show (((lab n k).set (k + 0) true).set (k + 1) true, _, _) = _
    rw [Nat.add_zero, lab_next n k (by omega), lab_next n (k + 1) (by omega)]
end Go.Proofs.YthbldjnpnligpaaDoor

/-
  The walks over ptr.Node and ptr.IsEmpty.
-/

namespace Go.Proofs.YthbldjnpnligpaaDoor
set_option linter.unusedSimpArgs false
set_option linter.unusedVariables false
set_option maxRecDepth 100000
open Go.RowKit

/-- Pointers as they are written, one behind the other. -/
def encs : List Pt → List Int
  | [] => []
  | p :: l => p.enc ++ encs l

theorem encs_append (l m : List Pt) : encs (l ++ m) = encs l ++ encs m := by
  induction l with
  | nil => rfl
  | cons p l ih => simp [encs, ih]
theorem encs_len : ∀ {l : List Pt}, (∀ p ∈ l, p.ok) → (encs l).length = 44 * l.length
  | [], _ => rfl
  | p :: l, h => by rw [encs, List.length_append, Pt.enc_len (h p (by simp)), encs_len (fun q hq => h q (by simp [hq])), List.length_cons]; omega
theorem encs_rng : ∀ {l : List Pt}, (∀ p ∈ l, p.ok) → ∀ z ∈ encs l, 0 ≤ z ∧ z ≤ 255
  | [], _, z, hz => by simp [encs] at hz
  | p :: l, h, z, hz => by
    rcases List.mem_append.1 hz with hz | hz
    · exact Pt.enc_rng (h p (by simp)) z hz
    · exact encs_rng (fun q hq => h q (by simp [hq])) z hz

/-- A node as it is written. -/
def nodeL (l : List Pt) : List Int := encs l ++ List.replicate 80 0
theorem nodeL_len {l : List Pt} (h : ∀ p ∈ l, p.ok) (h4 : l.length = 4) : (nodeL l).length = 256 := by simp [nodeL, encs_len h, h4]
theorem nodeL_rng {l : List Pt} (h : ∀ p ∈ l, p.ok) : ∀ z ∈ nodeL l, 0 ≤ z ∧ z ≤ 255 := by
  intro z hz
  rcases List.mem_append.1 hz with hz | hz
  · exact encs_rng h z hz
  · rw [List.mem_replicate] at hz; omega

def nth (l : List Pt) (k : Nat) : Pt := l.getD k Pt.zero
theorem nth_ok {l : List Pt} (hl : ∀ p ∈ l, p.ok) (i : Nat) : (nth l i).ok := by
  unfold nth
  rw [List.getD_eq_getElem?_getD]
  cases h : l[i]? with
  | none => exact Pt.zero_ok
  | some p => exact hl p (List.mem_of_getElem? h)
theorem take_nth {l : List Pt} {k : Nat} (hk : k < l.length) : l.take (k + 1) = l.take k ++ [nth l k] := by
  unfold nth
  rw [List.take_succ_eq_append_getElem hk, List.getD_eq_getElem?_getD, List.getElem?_eq_getElem hk]; rfl
theorem four_part {l : List Pt} (hl : ∀ p ∈ l, p.ok) {k : Nat} (hk : k < l.length) : (nth l k).vs = ((fourV l).drop (k * 35)).take 35 := by
  rw [← fourV_part hl k hk]; unfold nth
  rw [List.getD_eq_getElem?_getD, List.getElem?_eq_getElem hk]; rfl

/-- One of the four, out of the value. -/
theorem index_part {P : Program} {t e : TypeId} {n m : Nat} {cs us : List Value} {K : IntKind} {j : Nat} (ht : P.underlying t = some (.array n e)) (hA : ∀ w, (isAgg e).run P w = .ok true w) (hs : (P.info? e).map (·.size) = some m) (hj : j < n) (hx : us = (cs.drop (j * m)).take m) (w : World) :
    (Instr.index t (.agg cs.toArray) (.int K (j : Int))).run P w = .ok (.agg us.toArray) w := by
  have hz := sizeOf_run hs w
  have hp := part_agg (P := P) (w := w) (t := e) (off := j * m) hA (sizeOf_run hs) hx
  have hb : (0 : Int) ≤ (j : Int) ∧ (j : Int) < (n : Int) := by omega
  simp [Instr.index, asIntOf, run_underlying ht, hz, hb, hp, Sem.run_bind]
  omega

theorem index_four {l : List Pt} (hl : ∀ p ∈ l, p.ok) (h4 : l.length = 4) {k : Nat} (hk : k < 4) (u : World) :
    (Instr.index 139 (.agg (fourV l).toArray) (.int .i64 (k : Int))).run Tryd.prog u = .ok (.agg (nth l k).vs.toArray) u :=
  index_part Tryd.underlying139 agg_ptr sizes26 hk (four_part hl (by omega)) u

set_option maxHeartbeats 1000000 in
set_option maxRecDepth 100000 in
theorem isEmpty_run (l : List Pt) (hl : ∀ p ∈ l, p.ok) (h4 : l.length = 4) (w : World) : Calls Tryd.prog 168 #[.agg (fourV l).toArray] w fun e w' => e = .returned (.bool (l.all Pt.hole)) ∧ Below w.heap.size w w' := by
  have hfl : (fourV l).length = 140 := by rw [fourV_len hl, h4]
  obtain ⟨fv, hfv⟩ : ∃ fv, fv = fourV l := ⟨_, rfl⟩
  have hix : ∀ k : Nat, k < 4 → ∀ u, (Instr.index 139 (.agg fv.toArray) (.int .i64 (k : Int))).run Tryd.prog u = .ok (.agg (nth l k).vs.toArray) u := fun k hk u => by rw [hfv]; exact index_four hl h4 hk u
  have HIX : Hid (∀ k : Nat, k < 4 → ∀ u, (Instr.index 139 (.agg fv.toArray) (.int .i64 (k : Int))).run Tryd.prog u = .ok (.agg (nth l k).vs.toArray) u) := hix
  have hzl : Pt.zero.vs.length = 35 := Pt.vs_len Pt.zero_ok
  rw [← hfv] at hfl ⊢
  clear hfv hix
  go_enter Tryd.func168, Tryd.ntmps168
  go_wp2_with (first
    | (refine wpList_box0 (by rfl) 139 (.tmp 0) (by rfl) fv (by rfl) ?_; intro w1 hF1 hb1 hs1)
    | (refine wpList_load_blk (by rfl) (.tmp 1) 139 (by rfl) _ 0 140 (by rfl) agg_four size_four hF1 _ (whole_load hfl) hfl ?_))
  go_loopw [6] (fun i wr => ∃ k : Nat, k ≤ 4 ∧ i = .int .i64 k ∧ Hid ((l.take k).all Pt.hole = true) ∧ Below w.heap.size w wr) (fun i _ => 4 - (intOf i).toNat)
  case atStart => exact ⟨0, by omega, rfl, rfl, hb1⟩
  case round =>
    rename_i hrel
    obtain ⟨k, hk, rfl, hall, hbr⟩ := hrel
    clear hF1 hb1 hs1
    have hsz := hbr.size
    by_cases hlt : k < 4
    · have hix := HIX.out k hlt
      obtain ⟨p, hp⟩ : ∃ p, p = nth l k := ⟨_, rfl⟩
      have hok : p.ok := hp ▸ nth_ok hl k
      have HT : Hid (l.take (k + 1) = l.take k ++ [p]) := by rw [hp]; exact take_nth (by omega)
      have hvl := Pt.vs_len hok
      have hh := isHole_run p hok
      rw [← hp] at hix
      clear hp
      cases hhv : p.hole
      · rw [hhv] at hh
        have HF : Hid (l.all Pt.hole = false) := by
          show _ = _
          have : l = l.take (k + 1) ++ l.drop (k + 1) := (List.take_append_drop _ _).symm
          rw [this, List.all_append, HT.out, List.all_append]
          simp [hhv]
        go_wp2_with (first
          | (refine wpList_alloc0 (by rfl) 42 (by rfl) (some 4) (by rfl) Pt.zero.vs alloc_ptr0 ?_; intro w3 hP3 hb3 hs3)
          | (refine wpList_store_blk (by rfl) (.tmp 4) (.tmp 8) 42 (by rfl) _ 0 35 (by rfl) _ (by rfl) size_ptr hP3 hvl (by omega) (Pt.vs_one _) _ (whole_store hzl) ?_
             intro w4 hP4 hbut4 hs4)
          | (refine wpList_load_blk (by rfl) (.tmp 4) 42 (by rfl) _ 0 35 (by rfl) agg_ptr size_ptr hP4 _ (whole_load hvl) hvl ?_)
          | (go_at_call 87; go_must (refine (hh _).mono ?_); rintro e w5 ⟨rfl, hb5⟩))
        go_ret
        refine ⟨by rw [HF.out]; rfl, ?_⟩
        exact ((hbr.trans (hb3.mono (by omega))).trans (hbut4.below (by omega) (by omega))).trans (hb5.mono (by omega))
      · rw [hhv] at hh
        go_wp2_with (first
          | (refine wpList_alloc0 (by rfl) 42 (by rfl) (some 4) (by rfl) Pt.zero.vs alloc_ptr0 ?_; intro w3 hP3 hb3 hs3)
          | (refine wpList_store_blk (by rfl) (.tmp 4) (.tmp 8) 42 (by rfl) _ 0 35 (by rfl) _ (by rfl) size_ptr hP3 hvl (by omega) (Pt.vs_one _) _ (whole_store hzl) ?_
             intro w4 hP4 hbut4 hs4)
          | (refine wpList_load_blk (by rfl) (.tmp 4) 42 (by rfl) _ 0 35 (by rfl) agg_ptr size_ptr hP4 _ (whole_load hvl) hvl ?_)
          | (go_at_call 87; go_must (refine (hh _).mono ?_); rintro e w5 ⟨rfl, hb5⟩))
        go_roundw
        case rel => exact ⟨k + 1, by omega, by go_num, by show _ = _; rw [HT.out, List.all_append, hall.out]; simp [hhv], ((hbr.trans (hb3.mono (by omega))).trans (hbut4.below (by omega) (by omega))).trans (hb5.mono (by omega))⟩
        case measure => simp [intOf]; omega
    · have HF : Hid (l.all Pt.hole = true) := by
        have := hall.out
        rw [List.take_of_length_le (by omega)] at this
        exact this
      go_wp2
      go_ret
      exact ⟨by rw [HF.out]; rfl, hbr⟩
/-- What of a node is laid so far. -/
theorem node_step {l : List Pt} (hl : ∀ p ∈ l, p.ok) {k : Nat} (hk : k < l.length) : encs (l.take (k + 1)) = encs (l.take k) ++ (nth l k).enc := by
  rw [take_nth hk, encs_append]; simp [encs]
theorem encs_take_len {l : List Pt} (hl : ∀ p ∈ l, p.ok) {k : Nat} (hk : k ≤ l.length) : (encs (l.take k)).length = 44 * k := by
  rw [encs_len (fun p hp => hl p (List.mem_of_mem_take hp)), List.length_take, Nat.min_eq_left hk]

set_option maxHeartbeats 1000000 in
set_option maxRecDepth 100000 in
theorem node_new (l : List Pt) (hl : ∀ p ∈ l, p.ok) (h4 : l.length = 4) (w : World) : Calls Tryd.prog 126 #[.agg (fourV l).toArray] w fun e w' => ∃ a c, e = .returned (.slice a 256 c) ∧ Bs w' a c (nodeL l) ∧ Below w.heap.size w w' ∧ ∀ x, a = some x → w.heap.size ≤ x.block := by
  obtain ⟨i0, hi, hz0, hz1, hz2⟩ := info_parts Tryd.info5
  have hfl : (fourV l).length = 140 := by rw [fourV_len hl, h4]
  obtain ⟨fv, hfv⟩ : ∃ fv, fv = fourV l := ⟨_, rfl⟩
  have HIX : Hid (∀ k : Nat, k < 4 → ∀ u, (Instr.index 139 (.agg fv.toArray) (.int .i64 (k : Int))).run Tryd.prog u = .ok (.agg (nth l k).vs.toArray) u) := fun k hk u => by rw [hfv]; exact index_four hl h4 hk u
  have hzl : Pt.zero.vs.length = 35 := Pt.vs_len Pt.zero_ok
  have hz4 : ((List.replicate 44 (0 : Int)).map (Value.int .u8)).length = 44 := rfl
  have HB : Hid (Bs w none 0 []) := Bs.empty w
  rw [← hfv] at hfl ⊢
  clear hfv
  go_enter Tryd.func126, Tryd.ntmps126
  go_wp2_with (first
    | (refine wpList_box0 (by rfl) 139 (.tmp 0) (by rfl) fv (by rfl) ?_; intro w1 hF1 hb1 hs1)
    | (at_make; go_must (refine wpList_make_bytes (w0 := w1) (by rfl) _ _ 43 (by rfl) w1.heap.size 5 i0 Tryd.underlying43 hi hz0 hz1 hz2 _ _ _ _ 256 (by rfl) (by rfl) (by omega) (by omega) (by omega) (Nat.le_refl _) (Below.refl _ _) ?_); intro w2 hO2 hb2; rw [hs1] at hO2; have hF2 := hF1.stays hb2; have hW2 := below_then hb1 hb2)
    | (refine wpList_load_blk (by rfl) (.tmp 1) 139 (by rfl) _ 0 140 (by rfl) agg_four size_four hF2 _ (whole_load hfl) hfl ?_))
  go_loopw [9] (fun i wr => ∃ k : Nat, k ≤ 4 ∧ i = .int .i64 k ∧ Row 5 wr (w.heap.size + 1) (encs (l.take k) ++ List.replicate (256 - 44 * k) 0) ∧ Below w.heap.size w wr) (fun i _ => 4 - (intOf i).toNat)
  case atStart => exact ⟨0, by omega, rfl, hO2, hW2⟩
  case round =>
    rename_i hrel
    obtain ⟨k, hk, rfl, hO, hbr⟩ := hrel
    clear hF1 hb1 hs1 hO2 hb2 hF2 hW2
    have hsz := hbr.size
    have hOl := hO.lt
    by_cases hlt : k < 4
    · have hix := HIX.out k hlt
      obtain ⟨p, hp⟩ : ∃ p, p = nth l k := ⟨_, rfl⟩
      have hok : p.ok := hp ▸ nth_ok hl k
      have HT : Hid (encs (l.take (k + 1)) = encs (l.take k) ++ p.enc) := by rw [hp]; exact node_step hl (by omega)
      have HD : Hid ((encs (l.take k)).length = 44 * k) := encs_take_len hl (by omega)
      have hvl := Pt.vs_len hok
      have hen := encode_run p hok
      have hel := Pt.enc_len hok
      have hevl : (p.enc.map (Value.int .u8)).length = 44 := by rw [List.length_map]; exact hel
      have her := Pt.enc_rng hok
      obtain ⟨D, hD⟩ : ∃ D, D = 44 * k := ⟨_, rfl⟩
      obtain ⟨A, hsl, hA⟩ := own_from (g := w.heap.size + 1) (n := 256) D (by omega)
      have hA' := hA (by omega)
      subst hA'
      have hDk : (k : Int) * 44 = (D : Int) := by omega
      have hD2 : D ≤ 132 := by omega
      have hwD : IntKind.i64.wrap (D : Int) = (D : Int) := by first | go_num | (rw [IntKind.wrap_i64]; omega)
      have HDk : Hid (D = 44 * k) := hD
      rw [← hp] at hix
      rw [← hD] at hO
      clear hp hA hD
      go_wp2_with (first
        | (refine wpList_alloc0 (by rfl) 42 (by rfl) (some 5) (by rfl) Pt.zero.vs alloc_ptr0 ?_; intro w3 hP3 hb3 hs3)
        | (refine wpList_store_blk (by rfl) (.tmp 5) (.tmp 12) 42 (by rfl) _ 0 35 (by rfl) _ (by rfl) size_ptr hP3 hvl (by omega) (Pt.vs_one _) _ (whole_store hzl) ?_
           intro w4 hP4 hbut4 hs4)
        | (refine wpList_load_blk (by rfl) (.tmp 5) 42 (by rfl) _ 0 35 (by rfl) agg_ptr size_ptr hP4 _ (whole_load hvl) hvl ?_)
        | (go_at_call 128; go_must (refine (hen _).mono ?_); rintro e w5 ⟨rfl, hb5⟩)
        | (refine wpList_alloc0 (by rfl) 199 (by rfl) (some 6) (by rfl) _ alloc_44 ?_; intro w6 hE6 hb6 hs6)
        | (refine wpList_store_blk (by rfl) (.tmp 6) (.tmp 14) 199 (by rfl) _ 0 44 (by rfl) _ (by rfl) size_44 hE6 hevl (by rw [hz4]; omega) (int_oneCell _ _) _ (whole_store hz4) ?_
           intro w7 hE7 hbut7 hs7))
      have hq3 : Below w.heap.size w w4 := (hbr.trans (hb3.mono (by omega))).trans (hbut4.below (by omega) (by omega))
      have hq5 := hq3.trans (hb5.mono hq3.size)
      have hq7 : Below w.heap.size w w7 := (hq5.trans (hb6.mono hq5.size)).trans (hbut7.below hq5.size (by have := hq5.size; omega))
      have hO4 : Row 5 w4 (w.heap.size + 1) (encs (l.take k) ++ List.replicate (256 - D) 0) := by
        have h3 := hO.stays hb3
        unfold Row at h3 ⊢
        rw [hbut4.block _ (by omega) (by omega)]; exact h3
      have hO7 : Row 5 w7 (w.heap.size + 1) (encs (l.take k) ++ List.replicate (256 - D) 0) := by
        have h6 := (hO4.stays hb5).stays hb6
        have := hb5.size
        unfold Row at h6 ⊢
        rw [hbut7.block _ (by omega) (by omega)]; exact h6
      obtain ⟨E, hEE⟩ : ∃ E, E = w5.heap.size := ⟨_, rfl⟩
      rw [← hEE] at hE7 ⊢
      have hBE : Bs w7 (some ⟨E, 0, none⟩) 44 p.enc := ⟨her, by omega, by decide, by simp, .inr ⟨E, 0, rfl, fun i hi => by
        rw [hE7.cell]
        simp [List.getD, hi]⟩⟩
      clear hO hO4 hP3 hP4 hb3 hbut4 hs3 hs4 hb5 hb6 hs6 hE6 hbut7 hs7 hEE hq3 hq5
      refine wp_region_any (by kernel_rfl) ?_
      change wpAny _ _ _ _ _ _ _ (World.drew _)
      refine any_take 0 rfl (some 15) rfl (.slice (some ⟨w.heap.size + 1, 0, none⟩) 256 256) (by kernel_rfl) (by kernel_rfl) (by kernel_rfl) (fun _ _ _ h => h) (Or.inl ⟨by rfl, fun w => by go_simp⟩) ?_
      simp only [Act.put, List.setIfInBounds_toArray, List.set_cons_succ, List.set_cons_zero]
      refine any_take 1 rfl (some 16) rfl (.int .i64 (k : Int)) (by kernel_rfl) (by kernel_rfl) (by kernel_rfl) (fun _ _ _ h => h) (Or.inl ⟨by rfl, fun w => by go_simp⟩) ?_
      simp only [Act.put, List.setIfInBounds_toArray, List.set_cons_succ, List.set_cons_zero]
      refine any_take 2 rfl (some 17) rfl (.int .i64 (D : Int)) (by kernel_rfl) (by kernel_rfl) (by kernel_rfl) (fun _ _ _ h => h) (Or.inl ⟨by rfl, fun w => by go_simp; try go_num⟩) ?_
      simp only [Act.put, List.setIfInBounds_toArray, List.set_cons_succ, List.set_cons_zero]
      refine any_take 3 rfl (some 18) rfl (.slice (some ⟨w.heap.size + 1, D, none⟩) (256 - D) (256 - D)) (by kernel_rfl) (by kernel_rfl) (by kernel_rfl) (fun _ _ _ h => h) (Or.inl ⟨by rfl, fun w => by go_simp⟩) ?_
      simp only [Act.put, List.setIfInBounds_toArray, List.set_cons_succ, List.set_cons_zero]
      refine any_take 4 rfl (some 19) rfl (.slice (some ⟨E, 0, none⟩) 44 44) (by kernel_rfl) (by kernel_rfl) (by kernel_rfl) (fun _ _ _ h => h) (Or.inl ⟨by rfl, fun w => by go_simp⟩) ?_
      simp only [Act.put, List.setIfInBounds_toArray, List.set_cons_succ, List.set_cons_zero]
      refine any_seq 5 (by rfl) (by kernel_rfl) ?_
      simp only [List.drop_succ_cons, List.drop_zero]
      have hdl : D = (encs (l.take k)).length := by rw [HD.out, HDk.out]
      refine wpList_copy_bytes (w0 := w) (by rfl) (.tmp 18) (.tmp 19) 43 43 (by rfl) 5 Tryd.underlying43 sizes5 _ _ (256 - D) (256 - D) 44 44 (by rfl) (by rfl) (w.heap.size + 1) (encs (l.take k)) (List.replicate (256 - D) 0) p.enc (show Row _ w7.drew _ _ from hO7) (fun _ => by rw [← hdl]) (by simp) (by omega) (by simp; omega) (hBE.stays (Below.refl _ _).drew) w.heap.size hq7.drew (by omega) ?_
      intro w8 hO8 hb8
      have hO9 : Row 5 w8 (w.heap.size + 1) (encs (l.take (k + 1)) ++ List.replicate (256 - 44 * (k + 1)) 0) := by
        rw [HT.out]
        have : (List.replicate (256 - D) (0 : Int)).drop p.enc.length = List.replicate (256 - 44 * (k + 1)) 0 := by rw [List.drop_replicate, hel]; have := HDk.out; congr 1; omega
        rw [← this]; exact hO8
      have HO9 : Hid _ := hO9
      clear hO8 hO9 hO7 hBE hE7 hdl
      go_wp2
      go_roundw
      case rel => exact ⟨k + 1, by omega, by go_num, HO9.out, hb8⟩
      case measure => simp [intOf]; omega
    · have hk4 : k = 4 := by omega
      subst hk4
      have hR : Row 5 wr (w.heap.size + 1) (nodeL l) := by
        rw [List.take_of_length_le (by omega)] at hO
        exact hO
      have hn := nodeL_len hl h4
      have hB := hR.bs (nodeL_rng hl) (by rw [hn]; decide)
      rw [hn] at hB
      have HBB : Hid _ := hB
      clear hO hR hB hn
      go_wp2
      go_ret
      exact ⟨_, _, rfl, HBB.out, hbr, fun x hx => by cases hx; exact Nat.le_succ _⟩
end Go.Proofs.YthbldjnpnligpaaDoor

/-
  The walks over ptr.noughts and ptr.Read.
-/

namespace Go.Proofs.YthbldjnpnligpaaDoor
set_option linter.unusedSimpArgs false
set_option linter.unusedVariables false
set_option maxRecDepth 100000
open Go.RowKit

/-- The k-th pointer's bytes. -/
def piece (xs : List Int) (k : Nat) : List Int := (xs.drop (44 * k)).take 44
theorem piece_len {xs : List Int} (h : xs.length = 256) {k : Nat} (hk : k < 4) : (piece xs k).length = 44 := by simp [piece]; omega
theorem piece_rng {xs : List Int} (h : ∀ x ∈ xs, 0 ≤ x ∧ x ≤ 255) (k : Nat) : ∀ x ∈ piece xs k, 0 ≤ x ∧ x ≤ 255 := rng_take (rng_drop h _) _

def pieces (xs : List Int) : List Pt := [decP (piece xs 0), decP (piece xs 1), decP (piece xs 2), decP (piece xs 3)]
theorem pieces_ok {xs : List Int} (h : xs.length = 256) (hr : ∀ x ∈ xs, 0 ≤ x ∧ x ≤ 255) : ∀ p ∈ pieces xs, p.ok := by
  intro p hp
  simp only [pieces, List.mem_cons, List.not_mem_nil, or_false] at hp
  rcases hp with rfl | rfl | rfl | rfl <;> exact decP_ok (piece_rng hr _) (by rw [piece_len h (by omega)]; omega)
/-- What Read tells. -/
def readL (xs : List Int) : List Pt × Nat :=
  if xs.length = 256 then (if (pieces xs).all Pt.may && (xs.drop 176).all (· == 0) then (pieces xs, 0) else (zeros4, 3)) else (zeros4, 3)

theorem fourV_set : ∀ {l : List Pt}, (∀ p ∈ l, p.ok) → ∀ {k : Nat}, k < l.length → ∀ p : Pt, fourV (l.set k p) = (fourV l).take (k * 35) ++ p.vs ++ (fourV l).drop (k * 35 + 35)
  | q :: l, h, 0, _, p => by
    have hq := Pt.vs_len (h q (by simp))
    rw [List.set_cons_zero, fourV, fourV, Nat.zero_mul, List.take_zero, List.nil_append, Nat.zero_add, ← hq, List.drop_left]
  | q :: l, h, k + 1, hk, p => by
    have hq := Pt.vs_len (h q (by simp))
    have ih := fourV_set (l := l) (fun r hr => h r (by simp [hr])) (k := k) (by simpa using hk) p
    rw [List.set_cons_succ, fourV, fourV, ih, show (k + 1) * 35 = q.vs.length + k * 35 by omega, List.take_length_add_append, Nat.add_assoc, List.drop_length_add_append]
    simp

set_option maxRecDepth 100000 in
theorem noughts_run (a : Option Addr) (c n : Nat) (xs : List Int) (w : World) (hn : n = xs.length) (hB : Bs w a c xs) (hlen : n ≤ 1000000) :
    Calls Tryd.prog 159 #[.slice a n c] w fun e w' => e = .returned (.bool (xs.all (· == 0))) ∧ Below w.heap.size w w' := by
  have HN : Hid (n = xs.length) := hn
  have hrng := hB.rng
  have HC : Hid (∀ k, k < n → ∃ b off, a = some ⟨b, off, none⟩ ∧ w.cell? ⟨b, off + k, none⟩ = some (.int .u8 (xs.getD k 0))) := fun k hk => by
    obtain ⟨b, off, h1, h2⟩ := hB.cell (by omega)
    exact ⟨b, off, h1, h2 k (by omega)⟩
  clear hn hB
  go_enter Tryd.func159, Tryd.ntmps159
  go_wp2
  go_loop [7] (fun i => ∃ k : Nat, k ≤ n ∧ i = .int .i64 k ∧ Hid ((xs.take k).all (· == 0) = true)) (fun i => n - (intOf i).toNat)
  case atStart => exact ⟨0, by omega, rfl, rfl⟩
  case round =>
    obtain ⟨k, hk, rfl, hall⟩ := hrel
    by_cases hlt : k < n
    · obtain ⟨b, off, ha, hc⟩ := HC.out k hlt
      have hix : ∀ w' : World, (Instr.indexAt 43 (.slice a n c) (.int .i64 k)).run Tryd.prog w' = .ok (.pointer (some ⟨b, off + k, none⟩)) w' := fun w' => by
        rw [ha]; exact index_run 43 5 Tryd.underlying43 sizes5 Tryd.elem43 b off n c .i64 k hlt w'
      obtain ⟨x, hx⟩ : ∃ x, x = xs.getD k 0 := ⟨_, rfl⟩
      have hkl : k < xs.length := by rw [← HN.out]; exact hlt
      have HT : Hid (xs.take (k + 1) = xs.take k ++ [x]) := by
        show _ = _
        rw [List.take_succ_eq_append_getElem hkl, hx, List.getD_eq_getElem?_getD, List.getElem?_eq_getElem hkl]; rfl
      have hxr : 0 ≤ x ∧ x ≤ 255 := by rw [hx]; exact getD_rng hrng k hkl
      obtain ⟨hx0, hx1⟩ := hxr
      rw [← hx] at hc
      clear hx ha
      by_cases hz : x = 0
      · subst hz
        go_wp2
        go_round
        case rel => exact ⟨k + 1, by omega, by go_num, by show _ = _; rw [HT.out, List.all_append, hall.out]; rfl⟩
        case measure => simp [intOf]; omega
      · have HF : Hid (xs.all (· == 0) = false) := by
          show _ = _
          have h1 : xs = xs.take (k + 1) ++ xs.drop (k + 1) := (List.take_append_drop _ _).symm
          rw [h1, List.all_append, HT.out, List.all_append]
          simp [hz]
        have hzb : (x == 0) = false := by simp [hz]
        go_wp2
        go_ret
        exact ⟨by rw [HF.out]; rfl, Below.refl _ _⟩
    · have HF : Hid (xs.all (· == 0) = true) := by
        have h1 := hall.out
        have h2 := HN.out
        rw [List.take_of_length_le (by omega)] at h1
        exact h1
      go_wp2
      go_ret
      exact ⟨by rw [HF.out]; rfl, Below.refl _ _⟩
/-- What is laid of them behind k rounds. -/
def laidK (xs : List Int) (k : Nat) : List Pt := (pieces xs).take k ++ List.replicate (4 - k) Pt.zero
theorem laidK_len (xs : List Int) {k : Nat} (hk : k ≤ 4) : (laidK xs k).length = 4 := by simp [laidK, pieces]; omega
theorem laidK_ok {xs : List Int} (h : xs.length = 256) (hr : ∀ x ∈ xs, 0 ≤ x ∧ x ≤ 255) (k : Nat) : ∀ p ∈ laidK xs k, p.ok := by
  intro p hp
  rcases List.mem_append.1 hp with hp | hp
  · exact pieces_ok h hr p (List.mem_of_mem_take hp)
  · rw [(List.mem_replicate.1 hp).2]; exact Pt.zero_ok
theorem laidK_set (xs : List Int) {k : Nat} (hk : k < 4) : (laidK xs k).set k (decP (piece xs k)) = laidK xs (k + 1) := by
  rcases (by omega : k = 0 ∨ k = 1 ∨ k = 2 ∨ k = 3) with rfl | rfl | rfl | rfl <;> rfl
theorem laidK_all (xs : List Int) : laidK xs 4 = pieces xs := rfl
theorem pieces_take (xs : List Int) {k : Nat} (hk : k < 4) : (pieces xs).take (k + 1) = (pieces xs).take k ++ [decP (piece xs k)] := by
  rcases (by omega : k = 0 ∨ k = 1 ∨ k = 2 ∨ k = 3) with rfl | rfl | rfl | rfl <;> rfl

theorem readL_not {xs : List Int} {k : Nat} (hk : k < 4) (hm : (decP (piece xs k)).may = false) : readL xs = (zeros4, 3) := by
  have h : (pieces xs).all Pt.may = false := by
    rw [List.all_eq_false]
    refine ⟨decP (piece xs k), ?_, by simp [hm]⟩
    rcases (by omega : k = 0 ∨ k = 1 ∨ k = 2 ∨ k = 3) with rfl | rfl | rfl | rfl <;> simp [pieces]
  unfold readL
  rw [h]
  simp

set_option maxHeartbeats 2000000 in
set_option maxRecDepth 100000 in
theorem read_run (a : Option Addr) (c n : Nat) (xs : List Int) (w : World) (hn : n = xs.length) (hB : Bs w a c xs) :
    Calls Tryd.prog 134 #[.slice a n c] w fun e w' => e = .returned (.tuple #[.agg (fourV (readL xs).1).toArray, .int .i64 ((readL xs).2 : Int)]) ∧ Below w.heap.size w w' := by
  have hzl : (fourV zeros4).length = 140 := zeros4_len
  have hpz : Pt.zero.vs.length = 35 := Pt.vs_len Pt.zero_ok
  by_cases h256 : n = 256
  · subst h256
    have hl : xs.length = 256 := by omega
    obtain ⟨b, off, rfl, hc⟩ := hB.cell (by omega)
    have hcap : 256 ≤ c := by have := hB.cap; omega
    have hrng := hB.rng
    clear hc hn
    obtain ⟨zs, hzs⟩ : ∃ zs, zs = fourV zeros4 := ⟨_, rfl⟩
    have hal : ∀ w : World, (Instr.alloc 139 true (.tuple #[])).run Tryd.prog w = .ok (.pointer (some ⟨w.heap.size, 0, none⟩)) (w.alloc (.cells zs.toArray 139)) := by rw [hzs]; exact alloc_four0
    have hbu : ∀ w : World, (Instr.build 139 #[]).run Tryd.prog w = .ok (.agg zs.toArray) w := by rw [hzs]; exact build_four0
    have hz1 : ∀ v ∈ zs, v.oneCell' = true := by rw [hzs]; exact fourV_one _
    have HZS : Hid (zs = fourV zeros4) := hzs
    have HAL : Hid (∀ w : World, (Instr.alloc 139 true (.tuple #[])).run Tryd.prog w = .ok (.pointer (some ⟨w.heap.size, 0, none⟩)) (w.alloc (.cells zs.toArray 139))) := hal
    have HBU : Hid (∀ w : World, (Instr.build 139 #[]).run Tryd.prog w = .ok (.agg zs.toArray) w) := hbu
    rw [← hzs] at hzl
    clear hzs hal hbu
    go_enter Tryd.func134, Tryd.ntmps134
    go_wp2_with (first
      | (refine wpList_alloc0 (by rfl) 139 (by rfl) (some 2) (by rfl) zs HAL.out ?_; intro w1 hR1 hb1 hs1)
      | (refine wpList_alloc0 (by rfl) 139 (by rfl) (some 4) (by rfl) zs HAL.out ?_; intro w2 hL2 hb2 hs2; have hR2 := hR1.stays hb2; have hW2 := below_then hb1 hb2; rw [hs1] at hL2 hs2))
    go_loopw [12] (fun i wr => ∃ k : Nat, k ≤ 4 ∧ i = .int .i64 k ∧ Hid (((pieces xs).take k).all Pt.may = true) ∧ Blk 139 wr w.heap.size zs ∧ Blk 139 wr (w.heap.size + 1) (fourV (laidK xs k)) ∧ Below w.heap.size w wr) (fun i _ => 4 - (intOf i).toNat)
    case atStart => exact ⟨0, by omega, rfl, rfl, hR2, by rw [HZS.out] at hL2; exact hL2, hW2⟩
    case round =>
      rename_i hrel
      obtain ⟨k, hk, rfl, hall, hR, hL, hbr⟩ := hrel
      clear hR1 hb1 hs1 hL2 hb2 hs2 hR2 hW2
      have hsz := hbr.size
      have hLl := hL.lt
      by_cases hlt : k < 4
      · obtain ⟨D, hD⟩ : ∃ D, D = 44 * k := ⟨_, rfl⟩
        have hBp : ∀ u, Below w.heap.size w u → Bs u (some ⟨b, off + D, none⟩) (c - D) (piece xs k) := fun u hu => by
          have := (hB.mid D 44 (by omega) (by omega)).stays hu
          rw [hD] at this ⊢; exact this
        have hsl : ∀ u : World, (Instr.slice 43 (.slice (some ⟨b, off, none⟩) 256 c) (some (.int .i64 (D : Int))) (some (.int .i64 ((D + 44 : Nat) : Int))) none).run Tryd.prog u = .ok (.slice (some ⟨b, off + D, none⟩) 44 (c - D)) u := fun u =>
          slice_mid Tryd.underlying43 Tryd.elem43 sizes5 (by omega) (by omega) .i64 .i64 u
        have hpl := piece_len hl hlt
        have hdec : ∀ u, Below w.heap.size w u → Calls Tryd.prog 131 #[.slice (some ⟨b, off + D, none⟩) 44 (c - D)] u fun e w' => e = .returned (.tuple #[.agg (decodeL (piece xs k)).1.vs.toArray, .int .i64 ((decodeL (piece xs k)).2 : Int)]) ∧ Below u.heap.size u w' :=
          fun u hu => decode_run _ _ 44 (piece xs k) u hpl.symm (hBp u hu)
        have hdk : decodeL (piece xs k) = if (decP (piece xs k)).may then (decP (piece xs k), 0) else (Pt.zero, 3) := decodeL_at hpl
        have hok : (decP (piece xs k)).ok := decP_ok (piece_rng hrng k) (by omega)
        have HT : Hid ((pieces xs).take (k + 1) = (pieces xs).take k ++ [decP (piece xs k)]) := pieces_take xs hlt
        have HS : Hid (fourV (laidK xs (k + 1)) = (fourV (laidK xs k)).take (k * 35) ++ (decP (piece xs k)).vs ++ (fourV (laidK xs k)).drop (k * 35 + 35)) := by
          show _ = _
          rw [← laidK_set xs hlt]; exact fourV_set (laidK_ok hl hrng k) (by rw [laidK_len xs hk]; exact hlt) _
        have HNM : Hid ((decP (piece xs k)).may = false → readL xs = (zeros4, 3)) := readL_not hlt
        have hfl : (fourV (laidK xs k)).length = 140 := by rw [fourV_len (laidK_ok hl hrng k), laidK_len xs hk]
        obtain ⟨p, hp⟩ : ∃ p, p = decP (piece xs k) := ⟨_, rfl⟩
        obtain ⟨fv, hfv⟩ : ∃ fv, fv = fourV (laidK xs k) := ⟨_, rfl⟩
        have hix : ∀ u : World, (Instr.indexAt 139 (.pointer (some ⟨w.heap.size + 1, 0, none⟩)) (.int .i64 (k : Int))).run Tryd.prog u = .ok (.pointer (some ⟨w.heap.size + 1, k * 35, none⟩)) u := fun u => by
          have := index_ptr (P := Tryd.prog) (g := w.heap.size + 1) (off := 0) (K := .i64) Tryd.underlying139 sizes26 hlt u
          rw [Nat.zero_add] at this
          exact this
        rw [← hp] at hdk hok HT HS HNM
        rw [← hfv] at HS hfl hL
        have hvl := Pt.vs_len hok
        have hw1 : IntKind.i64.wrap ((k : Int) * 44) = (D : Int) := by rw [show (k : Int) * 44 = (D : Int) by omega]; first | go_num | (rw [IntKind.wrap_i64]; omega)
        have hw2 : IntKind.i64.wrap ((k : Int) + 1) = ((k + 1 : Nat) : Int) := by first | go_num | (rw [IntKind.wrap_i64]; omega)
        have hw3 : IntKind.i64.wrap (((k + 1 : Nat) : Int) * 44) = ((D + 44 : Nat) : Int) := by rw [show ((k + 1 : Nat) : Int) * 44 = ((D + 44 : Nat) : Int) by omega]; first | go_num | (rw [IntKind.wrap_i64]; omega)
        have hm1 : (k : Int) * 44 = (D : Int) := by omega
        have hm3 : ((k : Int) + 1) * 44 = ((D + 44 : Nat) : Int) := by omega
        have HDEC : Hid (∀ u, Below w.heap.size w u → Calls Tryd.prog 131 #[.slice (some ⟨b, off + D, none⟩) 44 (c - D)] u fun e w' => e = .returned (.tuple #[.agg (decodeL (piece xs k)).1.vs.toArray, .int .i64 ((decodeL (piece xs k)).2 : Int)]) ∧ Below u.heap.size u w') := hdec
        have HFV : Hid (fv = fourV (laidK xs k)) := hfv
        have HD : Hid (D = 44 * k) := hD
        clear hdec hBp hp hfv hD hB hpl
        cases hmv : p.may
        · rw [hmv, if_neg (by simp)] at hdk
          have hd := HDEC.out
          rw [hdk] at hd
          have HRL : Hid (readL xs = (zeros4, 3)) := HNM.out hmv
          have HDD : Hid (∀ u, Below w.heap.size w u → Calls Tryd.prog 131 #[.slice (some ⟨b, off + D, none⟩) 44 (c - D)] u fun e w' => e = .returned (.tuple #[.agg Pt.zero.vs.toArray, .int .i64 3]) ∧ Below u.heap.size u w') := hd
          clear hd hdk HDEC HNM
          go_wp2_with (first
            | (go_at_call 131; go_must (refine (HDD.out _ hbr).mono ?_); rintro e w3 ⟨rfl, hb3⟩; have hR3 := hR.stays hb3)
            | (refine wpList_alloc0 (by rfl) 42 (by rfl) (some 6) (by rfl) Pt.zero.vs alloc_ptr0 ?_; intro w4 hP4 hb4 hs4; have hR4 := hR3.stays hb4)
            | (refine wpList_store_blk (by rfl) (.tmp 6) (.tmp 24) 42 (by rfl) _ 0 35 (by rfl) _ (by rfl) size_ptr hP4 hpz (by omega) (Pt.vs_one _) _ (whole_store hpz) ?_
               intro w5 hP5 hbut5 hs5; have hR5 := hR4.but hbut5 (by have := hb3.size; omega))
            | (refine wpList_build0 (by rfl) 139 (by rfl) _ HBU.out ?_)
            | (refine wpList_store_blk (by rfl) (.tmp 2) (.tmp 28) 139 (by rfl) _ 0 140 (by rfl) _ (by rfl) size_four hR5 hzl (by omega) hz1 _ (whole_store hzl) ?_
               intro w6 hR6 hbut6 hs6))
          have z3 := hb3.size
          refine bodyPost_ret_blk2 rfl rfl (by rfl) (by rfl) agg_four size_four hR6 hzl ⟨by rw [HRL.out, HZS.out]; rfl, ?_⟩
          exact (((hbr.trans (hb3.mono (by omega))).trans (hb4.mono (by omega))).trans (hbut5.below (by omega) (by omega))).trans (hbut6.below (Nat.le_refl _) (by omega))
        · rw [hmv, if_pos rfl] at hdk
          have hd := HDEC.out
          rw [hdk] at hd
          have HDD : Hid (∀ u, Below w.heap.size w u → Calls Tryd.prog 131 #[.slice (some ⟨b, off + D, none⟩) 44 (c - D)] u fun e w' => e = .returned (.tuple #[.agg p.vs.toArray, .int .i64 0]) ∧ Below u.heap.size u w') := hd
          clear hd hdk HDEC HNM
          go_wp2_with (first
            | (go_at_call 131; go_must (refine (HDD.out _ hbr).mono ?_); rintro e w3 ⟨rfl, hb3⟩; have hR3 := hR.stays hb3; have hL3 := hL.stays hb3)
            | (refine wpList_alloc0 (by rfl) 42 (by rfl) (some 6) (by rfl) Pt.zero.vs alloc_ptr0 ?_; intro w4 hP4 hb4 hs4; have hR4 := hR3.stays hb4; have hL4 := hL3.stays hb4)
            | (refine wpList_store_blk (by rfl) (.tmp 6) (.tmp 24) 42 (by rfl) _ 0 35 (by rfl) _ (by rfl) size_ptr hP4 hvl (by omega) (Pt.vs_one _) _ (whole_store hpz) ?_
               intro w5 hP5 hbut5 hs5; have hR5 := hR4.but hbut5 (by have := hb3.size; omega); have hL5 := hL4.but hbut5 (by have := hb3.size; omega))
            | (refine wpList_load_blk (by rfl) (.tmp 6) 42 (by rfl) _ 0 35 (by rfl) agg_ptr size_ptr hP5 _ (whole_load hvl) hvl ?_)
            | (refine wpList_store_blk (by rfl) (.tmp 31) (.tmp 30) 42 (by rfl) _ (k * 35) 35 (by rfl) _ (by rfl) size_ptr hL5 hvl (by omega) (Pt.vs_one _) _ HS.out ?_
               intro w6 hL6 hbut6 hs6))
          have z3 := hb3.size
          have hR6 := hR5.but hbut6 (by omega)
          have hb6 : Below w.heap.size w w6 := (((hbr.trans (hb3.mono (by omega))).trans (hb4.mono (by omega))).trans (hbut5.below (by omega) (by omega))).trans (hbut6.below (by omega) (by omega))
          go_roundw
          case rel => exact ⟨k + 1, by omega, by go_num, by show _ = _; rw [HT.out, List.all_append, hall.out]; simp [hmv], hR6, hL6, hb6⟩
          case measure => simp [intOf]; omega
      · have hk4 : k = 4 := by omega
        subst hk4
        rw [laidK_all] at hL
        have hall' : (pieces xs).all Pt.may = true := hall.out
        have hpok := pieces_ok hl hrng
        have hfl : (fourV (pieces xs)).length = 140 := by rw [fourV_len hpok]; rfl
        have hB176 : ∀ u, Below w.heap.size w u → Bs u (some ⟨b, off + 176, none⟩) (c - 176) (xs.drop 176) := fun u hu => by
          have := (hB.mid 176 80 (by omega) (by omega)).stays hu
          rwa [List.take_of_length_le (by simp; omega)] at this
        have hsl : ∀ u : World, (Instr.slice 43 (.slice (some ⟨b, off, none⟩) 256 c) (some (.int .i64 176)) none none).run Tryd.prog u = .ok (.slice (some ⟨b, off + 176, none⟩) 80 (c - 176)) u := fun u => by
          have hz := sizeOf_run sizes5 u
          have hadd : (⟨b, off, none⟩ : Addr).add 176 = ⟨b, off + 176, none⟩ := by unfold Addr.add; split <;> simp_all
          have hne : ¬ c = 176 := by omega
          rw [run_slice_l u 43 (some ⟨b, off, none⟩) 256 c (by rw [Tryd.elem43]; exact Tryd.underlying43) .i64 176 (by omega) (by omega), Tryd.elem43, hz]
          simp [Result.andThen, sliced, hne, hadd]
        have hno : ∀ u, Below w.heap.size w u → Calls Tryd.prog 159 #[.slice (some ⟨b, off + 176, none⟩) 80 (c - 176)] u fun e w' => e = .returned (.bool ((xs.drop 176).all (· == 0))) ∧ Below u.heap.size u w' := fun u hu => noughts_run _ _ 80 (xs.drop 176) u (by simp; omega) (hB176 u hu) (by omega)
        have hrl : readL xs = if (xs.drop 176).all (· == 0) then (pieces xs, 0) else (zeros4, 3) := by
          unfold readL
          rw [if_pos hl, hall', Bool.true_and]
        obtain ⟨fv, hfv⟩ : ∃ fv, fv = fourV (pieces xs) := ⟨_, rfl⟩
        have hf1 : ∀ v ∈ fv, v.oneCell' = true := by rw [hfv]; exact fourV_one _
        have HFV : Hid (fv = fourV (pieces xs)) := hfv
        rw [← hfv] at hL hfl
        clear hfv hB hB176 hall hall' hpok
        cases hv : (xs.drop 176).all (· == 0)
        · rw [hv, if_neg (by simp)] at hrl
          have HRL : Hid (readL xs = (zeros4, 3)) := hrl
          rw [hv] at hno
          have HNO : Hid (∀ u, Below w.heap.size w u → Calls Tryd.prog 159 #[.slice (some ⟨b, off + 176, none⟩) 80 (c - 176)] u fun e w' => e = .returned (.bool false) ∧ Below u.heap.size u w') := hno
          clear hrl hno hv
          go_wp2_with (first
            | (go_at_call 159; go_must (refine (HNO.out _ hbr).mono ?_); rintro e w3 ⟨rfl, hb3⟩; have hR3 := hR.stays hb3)
            | (refine wpList_build0 (by rfl) 139 (by rfl) _ HBU.out ?_)
            | (refine wpList_store_blk (by rfl) (.tmp 2) (.tmp 37) 139 (by rfl) _ 0 140 (by rfl) _ (by rfl) size_four hR3 hzl (by omega) hz1 _ (whole_store hzl) ?_
               intro w6 hR6 hbut6 hs6))
          have z3 := hb3.size
          refine bodyPost_ret_blk2 rfl rfl (by rfl) (by rfl) agg_four size_four hR6 hzl ⟨by rw [HRL.out, HZS.out]; rfl, ?_⟩
          exact (hbr.trans (hb3.mono (by omega))).trans (hbut6.below (Nat.le_refl _) (by omega))
        · rw [hv, if_pos rfl] at hrl
          have HRL : Hid (readL xs = (pieces xs, 0)) := hrl
          rw [hv] at hno
          have HNO : Hid (∀ u, Below w.heap.size w u → Calls Tryd.prog 159 #[.slice (some ⟨b, off + 176, none⟩) 80 (c - 176)] u fun e w' => e = .returned (.bool true) ∧ Below u.heap.size u w') := hno
          clear hrl hno hv
          go_wp2_with (first
            | (go_at_call 159; go_must (refine (HNO.out _ hbr).mono ?_); rintro e w3 ⟨rfl, hb3⟩; have hR3 := hR.stays hb3; have hL3 := hL.stays hb3)
            | (refine wpList_load_blk (by rfl) (.tmp 4) 139 (by rfl) _ 0 140 (by rfl) agg_four size_four hL3 _ (whole_load hfl) hfl ?_)
            | (refine wpList_store_blk (by rfl) (.tmp 2) (.tmp 38) 139 (by rfl) _ 0 140 (by rfl) _ (by rfl) size_four hR3 hfl (by omega) hf1 _ (whole_store hzl) ?_
               intro w6 hR6 hbut6 hs6))
          have z3 := hb3.size
          refine bodyPost_ret_blk2 rfl rfl (by rfl) (by rfl) agg_four size_four hR6 hfl ⟨by rw [HRL.out, HFV.out]; rfl, ?_⟩
          exact (hbr.trans (hb3.mono (by omega))).trans (hbut6.below (Nat.le_refl _) (by omega))
  · have hrl : readL xs = (zeros4, 3) := by unfold readL; rw [if_neg (by omega)]
    have hne : ((n : Int) == 256) = false := by simp; omega
    have hne' : ¬ (n : Int) = 256 := by omega
    obtain ⟨zs, hzs⟩ : ∃ zs, zs = fourV zeros4 := ⟨_, rfl⟩
    have HAL : Hid (∀ w : World, (Instr.alloc 139 true (.tuple #[])).run Tryd.prog w = .ok (.pointer (some ⟨w.heap.size, 0, none⟩)) (w.alloc (.cells zs.toArray 139))) := by rw [hzs]; exact alloc_four0
    have HBU : Hid (∀ w : World, (Instr.build 139 #[]).run Tryd.prog w = .ok (.agg zs.toArray) w) := by rw [hzs]; exact build_four0
    have hz1 : ∀ v ∈ zs, v.oneCell' = true := by rw [hzs]; exact fourV_one _
    have HRL : Hid (readL xs = (zeros4, 3)) := hrl
    have HZS : Hid (zs = fourV zeros4) := hzs
    rw [← hzs] at hzl
    clear hzs hrl hn hB h256
    go_enter Tryd.func134, Tryd.ntmps134
    go_wp2_with (first
      | (refine wpList_alloc0 (by rfl) 139 (by rfl) (some 2) (by rfl) zs HAL.out ?_; intro w1 hR1 hb1 hs1)
      | (refine wpList_build0 (by rfl) 139 (by rfl) _ HBU.out ?_)
      | (refine wpList_store_blk (by rfl) (.tmp 2) (.tmp 11) 139 (by rfl) _ 0 140 (by rfl) _ (by rfl) size_four hR1 hzl (by omega) hz1 _ (whole_store hzl) ?_
         intro w6 hR6 hbut6 hs6))
    refine bodyPost_ret_blk2 rfl rfl (by rfl) (by rfl) agg_four size_four hR6 hzl ⟨by rw [HRL.out, HZS.out]; rfl, ?_⟩
    exact hb1.trans (hbut6.below (Nat.le_refl _) (by omega))

end Go.Proofs.YthbldjnpnligpaaDoor
