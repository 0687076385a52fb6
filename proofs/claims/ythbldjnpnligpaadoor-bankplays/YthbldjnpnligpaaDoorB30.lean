/-
 bank.restore.
-/
import Derived.Test.YthbldjnpnligpaaDoorB29
namespace Go.Proofs.YthbldjnpnligpaaDoor
set_option linter.unusedSimpArgs false
set_option linter.unusedVariables false
set_option maxRecDepth 100000
open Go.RowKit
section
variable {B : Nat} {w w' : World} {F : Nat → Prop} {k p g : Nat} {S S' : DS} {l l' : List Bool} {t : Nat}
theorem Hid.mk {P : Prop} (h : P) : Hid P := h
set_option maxHeartbeats 40000000 in
theorem restore_run (h : Bk B w F k p g S l t) (hln : S.ws.length ≤ 800000) (hV : Vars w) (hB2 : 2 ≤ B) (hoff : S.off = false) (q : Pt) (hq : q.ok) (a : Option Addr) (c : Nat) (bs : List Int) (hB : Bs w a c bs) (h256 : bs.length = 256) (hnF : ∀ x, a = some x → ¬ F x.block) :
 Calls Tryd.prog 108 #[.pointer (some ⟨k, 0, none⟩), .agg q.vs.toArray, .slice a 256 c] w fun e w' => e = .returned (.tuple #[.int .i64 ((restK S q bs).1.2 : Int), .int .i64 (restK S q bs).2]) ∧ Then F w w' p (restK S q bs).1.1 := by
 have hvl := Pt.vs_len hq
 have HX : Hid ([Value.int .u32 (q.x : Int), .int .u32 (q.y : Int)] = (q.vs.drop 33).take 2) := Pt.vs_at hq
 have HH : Hid (q.h.map (Value.int .u8) = (q.vs.drop 0).take 32) := Pt.vs_hash hq
 have hix0 : ∀ u : World, (Instr.index 40 (.agg #[.int .u32 (q.x : Int), .int .u32 (q.y : Int)]) (.int .i64 0)).run Tryd.prog u = .ok (.int .u32 (q.x : Int)) u := fun u => index_agg (j := 0) Tryd.underlying40 Tryd.underlying34 (by kernel_rfl) (by omega) rfl .i64 u
 have hix1 : ∀ u : World, (Instr.index 40 (.agg #[.int .u32 (q.x : Int), .int .u32 (q.y : Int)]) (.int .i64 1)).run Tryd.prog u = .ok (.int .u32 (q.y : Int)) u := fun u => index_agg (j := 1) Tryd.underlying40 Tryd.underlying34 (by kernel_rfl) (by omega) rfl .i64 u
 obtain ⟨vs, hvs⟩ : ∃ vs, vs = q.vs := ⟨_, rfl⟩
 obtain ⟨hs, hhs⟩ : ∃ hs, hs = q.h.map (Value.int .u8) := ⟨_, rfl⟩
 have hhl : hs.length = 32 := by rw [hhs, List.length_map, hq.len]
 rw [← hvs] at hvl HX HH ⊢
 rw [← hhs] at HH
 have HHS : Hid (hs = q.h.map (Value.int .u8)) := hhs
 clear hvs hhs
 have hrest : ∀ {s : DS × Nat}, stepR bs q.h q.x (S, 0) = (s, 0) → restK S q bs = stepR bs q.h q.y s := fun he => by unfold restK; rw [he, if_neg (by simp)]
 go_enter Tryd.func108, Tryd.ntmps108
 go_wp2_with (first
  | ((with_reducible show wpList _ _ _ (Oper.mk _ (Op.box _ _) _ _ _ _ :: _) _ _); refine wpList_box0 (by rfl) 42 (.tmp 1) (by rfl) vs (by rfl) ?_; intro w1 hL1 hb1 hs1; clear hs1)
  | ((with_reducible show wpList _ _ _ (Oper.mk _ (Op.load 40 _) _ _ _ _ :: _) _ _); refine wpList_load_blk (by rfl) (.tmp 14) 40 (by rfl) _ 33 2 (by rfl) agg_at size_at hL1 _ HX.out rfl ?_))
 have hBk1 := h.stays hb1
 have hB1 := hB.stays hb1
 have hnb : ¬ F w.heap.size := fun hf => by have := (h.low _ hf).2; omega
 clear hB
 go_loopw [8, 16] (fun n i wr => (i = .int .i64 0 ∧ n = .int .i64 0 ∧ w1 = wr) ∨ (i = .int .i64 1 ∧ ∃ s : DS × Nat, Hid (stepR bs q.h q.x (S, 0) = (s, 0)) ∧ n = .int .i64 (s.2 : Int) ∧ Then F w1 wr p s.1) ∨ (i = .int .i64 2 ∧ ∃ s : DS × Nat, Hid (restK S q bs = (s, 0)) ∧ n = .int .i64 (s.2 : Int) ∧ Then F w1 wr p s.1)) (fun _ i _ => 2 - (intOf i).toNat)
 case atStart => exact .inl ⟨rfl, rfl, rfl⟩
 case round =>
  rename_i hrel
  rcases hrel with ⟨rfl, rfl, rfl⟩ | ⟨rfl, s, HS, rfl, htr⟩ | ⟨rfl, s, HS, rfl, htr⟩
  · have htr : Then F w1 w1 p S := then_same hBk1.dk (Below.refl _ _)
    have hLr := hL1
    have hBk := hBk1
    have hlr : S.ws.length ≤ 900000 := by omega
    have hVr := hV.stays hb1
    have hor := hoff
    cases hr : rightL S q.x q.h
    · have hcl := right_bad hBk hlr (hVr) hor q.x hq.x q.h hq.len hr
      rw [← HHS.out] at hcl
      by_cases h0 : q.x = 0
      · have hz0 : (((q.x : Nat) : Int) == 0) = true := by simp; omega
        have hz1 : decide (((q.x : Nat) : Int) = 0) = true := by simp; omega
        have HZ : Hid (q.x = 0) := h0
        clear h0
        go_wp2_with (first
         | ((with_reducible show wpList _ _ _ (Oper.mk _ (Op.load 39 _) _ _ _ _ :: _) _ _); refine wpList_load_blk (by rfl) (.tmp 22) 39 (by rfl) _ 0 32 (by rfl) agg_hsh size_hash hLr _ HH.out hhl ?_)
         | (go_at_call 107; go_must (refine hcl.mono ?_); rintro e w5 ⟨rfl, hb5⟩
            have ht5 := then_after htr hb5))
        go_roundw
        case rel => exact .inr (.inl ⟨rfl, (S, 0), Hid.mk (by unfold stepR; rw [if_pos (.inr HZ.out)]), rfl, ht5⟩)
        case measure => decide
      · have h0i : ¬ (((q.x : Nat) : Int) = 0) := by omega
        have hwr : IntKind.i64.wrap ((q.x : Nat) : Int) = ((q.x : Nat) : Int) := by rw [IntKind.wrap_i64]; have := hq.x; omega
        have hno : ¬ (rightL S q.x q.h = true ∨ q.x = 0) := by rw [hr]; simp [h0]
        have HNO : Hid (¬ (rightL S q.x q.h = true ∨ q.x = 0)) := hno
        clear hno
        have hwc : ∀ w5, Then F w1 w5 p S → Calls Tryd.prog 144 #[.pointer (some ⟨p, 0, none⟩), .int .i64 ((q.x : Nat) : Int), .slice a 256 c] w5 fun e w' => e = .returned (.int .i64 (S.write ((q.x : Nat) : Int) bs).2) ∧ Then F w1 w' p (S.write ((q.x : Nat) : Int) bs).1 := fun w5 ht5 => by
         have hB5 := bs_keep ht5.2 hB1 hnF
         have := dk_write ht5.1 ((q.x : Nat) : Int) a c bs hB5 (fun x hx hf => hf.elim (hnF x hx) (fun h2 => by have := hB1.lt (by intro e; rw [e] at h256; simp at h256) hx; omega)) (by omega)
         rw [h256] at this
         refine this.mono ?_
         rintro e w' ⟨rfl, ht6⟩
         exact ⟨rfl, then_trans ht5 ht6⟩
        have hpc : ∀ w5, Then F w1 w5 p S → w5.cell? ⟨k, 0, none⟩ = some (.pointer (some ⟨p, 0, none⟩)) := fun w5 ht5 => (box_keep ht5.2 hBk1.bb hBk1.fk).cell 0
        rcases write_code S ((q.x : Nat) : Int) bs with hc | hc | hc
        · obtain ⟨S6, hS6⟩ : ∃ S6, S6 = (S.write ((q.x : Nat) : Int) bs).1 := ⟨_, rfl⟩
          have HC : Hid (S.write ((q.x : Nat) : Int) bs = (S6, 0)) := by show _ = _; rw [hS6, ← hc]
          rw [hc, ← hS6] at hwc
          clear hc hS6
          go_wp2_with (first
           | ((with_reducible show wpList _ _ _ (Oper.mk _ (Op.load 39 _) _ _ _ _ :: _) _ _); refine wpList_load_blk (by rfl) (.tmp 22) 39 (by rfl) _ 0 32 (by rfl) agg_hsh size_hash hLr _ HH.out hhl ?_)
           | (go_at_call 107; go_must (refine hcl.mono ?_); rintro e w5 ⟨rfl, hb5⟩
              have ht5 := then_after htr hb5
              have hpc5 := hpc _ ht5)
           | (go_at_call 144; go_must (refine (hwc _ ht5).mono ?_); rintro e w6 ⟨rfl, ht6⟩))
          go_roundw
          case rel => exact .inr (.inl ⟨rfl, (S6, 0 + 1), Hid.mk (by unfold stepR; rw [if_neg HNO.out, HC.out, if_pos rfl]), rfl, ht6⟩)
          case measure => decide
        · obtain ⟨S6, hS6⟩ : ∃ S6, S6 = (S.write ((q.x : Nat) : Int) bs).1 := ⟨_, rfl⟩
          have HC : Hid (S.write ((q.x : Nat) : Int) bs = (S6, 1)) := by show _ = _; rw [hS6, ← hc]
          rw [hc, ← hS6] at hwc
          clear hc hS6
          go_wp2_with (first
           | ((with_reducible show wpList _ _ _ (Oper.mk _ (Op.load 39 _) _ _ _ _ :: _) _ _); refine wpList_load_blk (by rfl) (.tmp 22) 39 (by rfl) _ 0 32 (by rfl) agg_hsh size_hash hLr _ HH.out hhl ?_)
           | (go_at_call 107; go_must (refine hcl.mono ?_); rintro e w5 ⟨rfl, hb5⟩
              have ht5 := then_after htr hb5
              have hpc5 := hpc _ ht5)
           | (go_at_call 144; go_must (refine (hwc _ ht5).mono ?_); rintro e w6 ⟨rfl, ht6⟩))
          go_roundw
          case rel => exact .inr (.inl ⟨rfl, (S6, 0), Hid.mk (by unfold stepR; rw [if_neg HNO.out, HC.out, if_neg (by simp), if_pos rfl]), rfl, ht6⟩)
          case measure => decide
        · obtain ⟨S6, hS6⟩ : ∃ S6, S6 = (S.write ((q.x : Nat) : Int) bs).1 := ⟨_, rfl⟩
          have HC : Hid (S.write ((q.x : Nat) : Int) bs = (S6, 8)) := by show _ = _; rw [hS6, ← hc]
          rw [hc, ← hS6] at hwc
          clear hc hS6
          go_wp2_with (first
           | ((with_reducible show wpList _ _ _ (Oper.mk _ (Op.load 39 _) _ _ _ _ :: _) _ _); refine wpList_load_blk (by rfl) (.tmp 22) 39 (by rfl) _ 0 32 (by rfl) agg_hsh size_hash hLr _ HH.out hhl ?_)
           | (go_at_call 107; go_must (refine hcl.mono ?_); rintro e w5 ⟨rfl, hb5⟩
              have ht5 := then_after htr hb5
              have hpc5 := hpc _ ht5)
           | (go_at_call 144; go_must (refine (hwc _ ht5).mono ?_); rintro e w6 ⟨rfl, ht6⟩))
          go_ret2
          have hv : restK S q bs = ((S6, 0), 8) := by
           have h1 : stepR bs q.h q.x (S, 0) = ((S6, 0), 8) := by unfold stepR; rw [if_neg HNO.out, HC.out, if_neg (by simp), if_neg (by simp)]
           unfold restK; rw [h1, if_pos (by simp)]
          rw [hv]
          exact ⟨rfl, then_below hb1 ht6⟩
    · have hcl := right_good hBk hlr (hVr) hor q.x hq.x q.h hq.len hr
      rw [← HHS.out] at hcl
      have HR : Hid (rightL S q.x q.h = true) := hr
      go_wp2_with (first
       | ((with_reducible show wpList _ _ _ (Oper.mk _ (Op.load 39 _) _ _ _ _ :: _) _ _); refine wpList_load_blk (by rfl) (.tmp 22) 39 (by rfl) _ 0 32 (by rfl) agg_hsh size_hash hLr _ HH.out hhl ?_)
       | (go_at_call 107; go_must (refine hcl.mono ?_); rintro e w5 ⟨a5, c5, rfl, _, hb5⟩
          have ht5 := then_after htr hb5))
      go_roundw
      case rel => exact .inr (.inl ⟨rfl, (S, 0), Hid.mk (by unfold stepR; rw [if_pos (.inl HR.out)]), rfl, ht5⟩)
      case measure => decide
  · have hsl : s.1.laid = S.laid := by have := stepR_laid bs q.h q.x (S, 0); rw [HS.out] at this; exact this
    have hsn : s.1.ws.length ≤ S.ws.length + 1 := by have := stepR_len bs q.h q.x (S, 0); rw [HS.out] at this; exact this
    have hor : s.1.off = false := by have := stepR_on (b := bs) (h := q.h) (x := q.x) (s := (S, 0)) hoff (by rw [HS.out]); rw [HS.out] at this; exact this
    have hs2 : s.2 ≤ 1 := by
        have h1 := congrArg (fun z : (DS × Nat) × Int => z.1.2) HS.out
        simp only at h1
        rw [← h1]
        unfold stepR
        repeat' split
        all_goals (simp only; omega)
    obtain ⟨F', hBk⟩ := hBk1.after htr hsl
    have hLr := box_keep htr.2 hL1 hnb
    have hlr : s.1.ws.length ≤ 900000 := by omega
    have hVr : Vars _ := (hV.stays hb1).below (htr.2.below hBk1.base (fun j hj => (hBk1.low j hj).1)) hB2
    cases hr : rightL s.1 q.y q.h
    · have hcl := right_bad hBk hlr (hVr) hor q.y hq.y q.h hq.len hr
      rw [← HHS.out] at hcl
      by_cases h0 : q.y = 0
      · have hz0 : (((q.y : Nat) : Int) == 0) = true := by simp; omega
        have hz1 : decide (((q.y : Nat) : Int) = 0) = true := by simp; omega
        have HZ : Hid (q.y = 0) := h0
        clear h0
        go_wp2_with (first
         | ((with_reducible show wpList _ _ _ (Oper.mk _ (Op.load 39 _) _ _ _ _ :: _) _ _); refine wpList_load_blk (by rfl) (.tmp 22) 39 (by rfl) _ 0 32 (by rfl) agg_hsh size_hash hLr _ HH.out hhl ?_)
         | (go_at_call 107; go_must (refine hcl.mono ?_); rintro e w5 ⟨rfl, hb5⟩
            have ht5 := then_after htr hb5))
        go_roundw
        case rel => exact .inr (.inr ⟨rfl, s, Hid.mk (by rw [hrest HS.out]; unfold stepR; rw [if_pos (.inr HZ.out)]), rfl, ht5⟩)
        case measure => decide
      · have h0i : ¬ (((q.y : Nat) : Int) = 0) := by omega
        have hwr : IntKind.i64.wrap ((q.y : Nat) : Int) = ((q.y : Nat) : Int) := by rw [IntKind.wrap_i64]; have := hq.y; omega
        have hno : ¬ (rightL s.1 q.y q.h = true ∨ q.y = 0) := by rw [hr]; simp [h0]
        have HNO : Hid (¬ (rightL s.1 q.y q.h = true ∨ q.y = 0)) := hno
        clear hno
        have hwc : ∀ w5, Then F w1 w5 p s.1 → Calls Tryd.prog 144 #[.pointer (some ⟨p, 0, none⟩), .int .i64 ((q.y : Nat) : Int), .slice a 256 c] w5 fun e w' => e = .returned (.int .i64 (s.1.write ((q.y : Nat) : Int) bs).2) ∧ Then F w1 w' p (s.1.write ((q.y : Nat) : Int) bs).1 := fun w5 ht5 => by
         have hB5 := bs_keep ht5.2 hB1 hnF
         have := dk_write ht5.1 ((q.y : Nat) : Int) a c bs hB5 (fun x hx hf => hf.elim (hnF x hx) (fun h2 => by have := hB1.lt (by intro e; rw [e] at h256; simp at h256) hx; omega)) (by omega)
         rw [h256] at this
         refine this.mono ?_
         rintro e w' ⟨rfl, ht6⟩
         exact ⟨rfl, then_trans ht5 ht6⟩
        have hpc : ∀ w5, Then F w1 w5 p s.1 → w5.cell? ⟨k, 0, none⟩ = some (.pointer (some ⟨p, 0, none⟩)) := fun w5 ht5 => (box_keep ht5.2 hBk1.bb hBk1.fk).cell 0
        rcases write_code s.1 ((q.y : Nat) : Int) bs with hc | hc | hc
        · obtain ⟨S6, hS6⟩ : ∃ S6, S6 = (s.1.write ((q.y : Nat) : Int) bs).1 := ⟨_, rfl⟩
          have HC : Hid (s.1.write ((q.y : Nat) : Int) bs = (S6, 0)) := by show _ = _; rw [hS6, ← hc]
          rw [hc, ← hS6] at hwc
          clear hc hS6
          go_wp2_with (first
           | ((with_reducible show wpList _ _ _ (Oper.mk _ (Op.load 39 _) _ _ _ _ :: _) _ _); refine wpList_load_blk (by rfl) (.tmp 22) 39 (by rfl) _ 0 32 (by rfl) agg_hsh size_hash hLr _ HH.out hhl ?_)
           | (go_at_call 107; go_must (refine hcl.mono ?_); rintro e w5 ⟨rfl, hb5⟩
              have ht5 := then_after htr hb5
              have hpc5 := hpc _ ht5)
           | (go_at_call 144; go_must (refine (hwc _ ht5).mono ?_); rintro e w6 ⟨rfl, ht6⟩))
          go_roundw
          case rel => exact .inr (.inr ⟨rfl, (S6, s.2 + 1), Hid.mk (by rw [hrest HS.out]; unfold stepR; rw [if_neg HNO.out, HC.out, if_pos rfl]), rfl, ht6⟩)
          case measure => decide
        · obtain ⟨S6, hS6⟩ : ∃ S6, S6 = (s.1.write ((q.y : Nat) : Int) bs).1 := ⟨_, rfl⟩
          have HC : Hid (s.1.write ((q.y : Nat) : Int) bs = (S6, 1)) := by show _ = _; rw [hS6, ← hc]
          rw [hc, ← hS6] at hwc
          clear hc hS6
          go_wp2_with (first
           | ((with_reducible show wpList _ _ _ (Oper.mk _ (Op.load 39 _) _ _ _ _ :: _) _ _); refine wpList_load_blk (by rfl) (.tmp 22) 39 (by rfl) _ 0 32 (by rfl) agg_hsh size_hash hLr _ HH.out hhl ?_)
           | (go_at_call 107; go_must (refine hcl.mono ?_); rintro e w5 ⟨rfl, hb5⟩
              have ht5 := then_after htr hb5
              have hpc5 := hpc _ ht5)
           | (go_at_call 144; go_must (refine (hwc _ ht5).mono ?_); rintro e w6 ⟨rfl, ht6⟩))
          go_roundw
          case rel => exact .inr (.inr ⟨rfl, (S6, s.2), Hid.mk (by rw [hrest HS.out]; unfold stepR; rw [if_neg HNO.out, HC.out, if_neg (by simp), if_pos rfl]), rfl, ht6⟩)
          case measure => decide
        · obtain ⟨S6, hS6⟩ : ∃ S6, S6 = (s.1.write ((q.y : Nat) : Int) bs).1 := ⟨_, rfl⟩
          have HC : Hid (s.1.write ((q.y : Nat) : Int) bs = (S6, 8)) := by show _ = _; rw [hS6, ← hc]
          rw [hc, ← hS6] at hwc
          clear hc hS6
          go_wp2_with (first
           | ((with_reducible show wpList _ _ _ (Oper.mk _ (Op.load 39 _) _ _ _ _ :: _) _ _); refine wpList_load_blk (by rfl) (.tmp 22) 39 (by rfl) _ 0 32 (by rfl) agg_hsh size_hash hLr _ HH.out hhl ?_)
           | (go_at_call 107; go_must (refine hcl.mono ?_); rintro e w5 ⟨rfl, hb5⟩
              have ht5 := then_after htr hb5
              have hpc5 := hpc _ ht5)
           | (go_at_call 144; go_must (refine (hwc _ ht5).mono ?_); rintro e w6 ⟨rfl, ht6⟩))
          go_ret2
          have hv : restK S q bs = ((S6, 0), 8) := by rw [hrest HS.out]; unfold stepR; rw [if_neg HNO.out, HC.out, if_neg (by simp), if_neg (by simp)]
          rw [hv]
          exact ⟨rfl, then_below hb1 ht6⟩
    · have hcl := right_good hBk hlr (hVr) hor q.y hq.y q.h hq.len hr
      rw [← HHS.out] at hcl
      have HR : Hid (rightL s.1 q.y q.h = true) := hr
      go_wp2_with (first
       | ((with_reducible show wpList _ _ _ (Oper.mk _ (Op.load 39 _) _ _ _ _ :: _) _ _); refine wpList_load_blk (by rfl) (.tmp 22) 39 (by rfl) _ 0 32 (by rfl) agg_hsh size_hash hLr _ HH.out hhl ?_)
       | (go_at_call 107; go_must (refine hcl.mono ?_); rintro e w5 ⟨a5, c5, rfl, _, hb5⟩
          have ht5 := then_after htr hb5))
      go_roundw
      case rel => exact .inr (.inr ⟨rfl, s, Hid.mk (by rw [hrest HS.out]; unfold stepR; rw [if_pos (.inl HR.out)]), rfl, ht5⟩)
      case measure => decide
  · have hs2 : s.2 ≤ 2 := by
        have h1 := congrArg (fun z : (DS × Nat) × Int => z.1.2) HS.out
        simp only at h1
        rw [← h1]
        exact restK_two S q bs
    go_wp2
    go_ret2
    rw [HS.out]
    exact ⟨rfl, then_below hb1 htr⟩
end
end Go.Proofs.YthbldjnpnligpaaDoor

/-
 bank.Read and bank.Look.
-/

namespace Go.Proofs.YthbldjnpnligpaaDoor
set_option linter.unusedSimpArgs false
set_option linter.unusedVariables false
set_option maxRecDepth 100000
open Go.RowKit
section
variable {B : Nat} {w w' : World} {F : Nat → Prop} {k p g : Nat} {S S' : DS} {l l' : List Bool} {t : Nat}
set_option maxHeartbeats 4000000 in
theorem bread_err (h : Bk B w F k p g S l t) (hln : S.ws.length ≤ 900000) (q : Pt) (hq : q.ok) (hne : (okK S q != 0) = true) : Calls Tryd.prog 52 #[.pointer (some ⟨k, 0, none⟩), .agg q.vs.toArray] w fun e w' => e = .returned (.tuple #[.slice none 0 0, .int .i64 (okK S q)]) ∧ Below w.heap.size w w' := by
 have hvl := Pt.vs_len hq
 have HX : Hid ([Value.int .u32 (q.x : Int), .int .u32 (q.y : Int)] = (q.vs.drop 33).take 2) := Pt.vs_at hq
 have HH : Hid (q.h.map (Value.int .u8) = (q.vs.drop 0).take 32) := Pt.vs_hash hq
 have hix0 : ∀ u : World, (Instr.index 40 (.agg #[.int .u32 (q.x : Int), .int .u32 (q.y : Int)]) (.int .i64 0)).run Tryd.prog u = .ok (.int .u32 (q.x : Int)) u := fun u => index_agg (j := 0) Tryd.underlying40 Tryd.underlying34 (by kernel_rfl) (by omega) rfl .i64 u
 have hix1 : ∀ u : World, (Instr.index 40 (.agg #[.int .u32 (q.x : Int), .int .u32 (q.y : Int)]) (.int .i64 1)).run Tryd.prog u = .ok (.int .u32 (q.y : Int)) u := fun u => index_agg (j := 1) Tryd.underlying40 Tryd.underlying34 (by kernel_rfl) (by omega) rfl .i64 u
 have hal : ∀ u, Below w.heap.size w u → Calls Tryd.prog 106 #[.pointer (some ⟨k, 0, none⟩), .agg q.vs.toArray] u fun e w' => e = .returned (.int .i64 (okK S q)) ∧ Below u.heap.size u w' := fun u hu => allows_run (h.stays hu) hln q hq
 have hho := isHole_run q hq
 obtain ⟨vs, hvs⟩ : ∃ vs, vs = q.vs := ⟨_, rfl⟩
 obtain ⟨hs, hhs⟩ : ∃ hs, hs = q.h.map (Value.int .u8) := ⟨_, rfl⟩
 have hhl : hs.length = 32 := by rw [hhs, List.length_map, hq.len]
 rw [← hvs] at hvl hal hho HX HH ⊢
 rw [← hhs] at HH
 have HHS : Hid (hs = q.h.map (Value.int .u8)) := hhs
 clear hvs hhs
 obtain ⟨E, hE⟩ : ∃ E, E = okK S q := ⟨_, rfl⟩
 rw [← hE] at hne hal ⊢
 clear hE
 go_enter Tryd.func52, Tryd.ntmps52
 go_wp2_with (first
  | ((with_reducible show wpList _ _ _ (Oper.mk _ (Op.box _ _) _ _ _ _ :: _) _ _); refine wpList_box0 (by rfl) 42 (.tmp 1) (by rfl) vs (by rfl) ?_; intro w1 hL1 hb1 hs1; clear hs1)
  | ((with_reducible show wpList _ _ _ (Oper.mk _ (Op.load 42 _) _ _ _ _ :: _) _ _); refine wpList_load_blk (by rfl) (.tmp 3) 42 (by rfl) _ 0 35 (by rfl) agg_ptr size_ptr hL1 _ (whole_load hvl) hvl ?_)
  | (go_at_call 106; go_must (refine (hal _ hb1).mono ?_); rintro e w2 ⟨rfl, hb2⟩))
 go_ret2
 exact ⟨rfl, below_then hb1 hb2⟩
set_option maxHeartbeats 4000000 in
theorem bread_hole (h : Bk B w F k p g S l t) (hln : S.ws.length ≤ 900000) (q : Pt) (hq : q.ok) (hok0 : okK S q = 0) (hhole : q.hole = true) : Calls Tryd.prog 52 #[.pointer (some ⟨k, 0, none⟩), .agg q.vs.toArray] w fun e w' => ∃ a c, e = .returned (.tuple #[.slice a 256 c, .int .i64 0]) ∧ NewB w.heap.size w' a c zeros256 ∧ Below w.heap.size w w' := by
 have hvl := Pt.vs_len hq
 have HX : Hid ([Value.int .u32 (q.x : Int), .int .u32 (q.y : Int)] = (q.vs.drop 33).take 2) := Pt.vs_at hq
 have HH : Hid (q.h.map (Value.int .u8) = (q.vs.drop 0).take 32) := Pt.vs_hash hq
 have hix0 : ∀ u : World, (Instr.index 40 (.agg #[.int .u32 (q.x : Int), .int .u32 (q.y : Int)]) (.int .i64 0)).run Tryd.prog u = .ok (.int .u32 (q.x : Int)) u := fun u => index_agg (j := 0) Tryd.underlying40 Tryd.underlying34 (by kernel_rfl) (by omega) rfl .i64 u
 have hix1 : ∀ u : World, (Instr.index 40 (.agg #[.int .u32 (q.x : Int), .int .u32 (q.y : Int)]) (.int .i64 1)).run Tryd.prog u = .ok (.int .u32 (q.y : Int)) u := fun u => index_agg (j := 1) Tryd.underlying40 Tryd.underlying34 (by kernel_rfl) (by omega) rfl .i64 u
 have hal : ∀ u, Below w.heap.size w u → Calls Tryd.prog 106 #[.pointer (some ⟨k, 0, none⟩), .agg q.vs.toArray] u fun e w' => e = .returned (.int .i64 (okK S q)) ∧ Below u.heap.size u w' := fun u hu => allows_run (h.stays hu) hln q hq
 have hho := isHole_run q hq
 obtain ⟨vs, hvs⟩ : ∃ vs, vs = q.vs := ⟨_, rfl⟩
 obtain ⟨hs, hhs⟩ : ∃ hs, hs = q.h.map (Value.int .u8) := ⟨_, rfl⟩
 have hhl : hs.length = 32 := by rw [hhs, List.length_map, hq.len]
 rw [← hvs] at hvl hal hho HX HH ⊢
 rw [← hhs] at HH
 have HHS : Hid (hs = q.h.map (Value.int .u8)) := hhs
 clear hvs hhs
 rw [hok0] at hal
 rw [hhole] at hho
 have hi : (Tryd.prog.info? 5).map (fun i => (i.zero, i.size, i.bytes)) = some (some (.int .u8 0), 1, 1) := by kernel_rfl
 obtain ⟨i0, hi0, hz0, hz1, hz2⟩ := info_parts hi
 have HZ : Hid (zeros256 = List.replicate 256 0) := rfl
 clear hok0
 go_enter Tryd.func52, Tryd.ntmps52
 go_wp2_with (first
  | ((with_reducible show wpList _ _ _ (Oper.mk _ (Op.box _ _) _ _ _ _ :: _) _ _); refine wpList_box0 (by rfl) 42 (.tmp 1) (by rfl) vs (by rfl) ?_; intro w1 hL1 hb1 hs1; clear hs1)
  | ((with_reducible show wpList _ _ _ (Oper.mk _ (Op.load 42 _) _ _ _ _ :: _) _ _); refine wpList_load_blk (by rfl) (.tmp 3) 42 (by rfl) _ 0 35 (by rfl) agg_ptr size_ptr hL1 _ (whole_load hvl) hvl ?_)
  | ((with_reducible show wpList _ _ _ (Oper.mk _ (Op.load 42 _) _ _ _ _ :: _) _ _); refine wpList_load_blk (by rfl) (.tmp 3) 42 (by rfl) _ 0 35 (by rfl) agg_ptr size_ptr hL2 _ (whole_load hvl) hvl ?_)
  | (go_at_call 106; go_must (refine (hal _ hb1).mono ?_); rintro e w2 ⟨rfl, hb2⟩
     have hL2 := hL1.stays hb2)
  | (go_at_call 87; go_must (refine (hho _).mono ?_); rintro e w3 ⟨rfl, hb3⟩)
  | (refine wpList_make_bytes (w0 := w3) (by rfl) (.const (.int .i64 256)) (.const (.int .i64 256)) 43 (by rfl) w3.heap.size 5 i0 Tryd.underlying43 hi0 hz0 hz1 hz2 .i64 .i64 256 256 256 (by rfl) (by rfl) (by omega) (by omega) (by omega) (Nat.le_refl _) (Below.refl _ _) ?_; intro w4 hrow4 hb4
     rw [← HZ.out] at hrow4))
 go_ret2
 have hb3' := below_then (below_then hb1 hb2) hb3
 have hB4 := hrow4.bs zeros256_rng (by rw [zeros256_len]; decide)
 rw [zeros256_len] at hB4
 exact ⟨_, _, rfl, ⟨hB4, fun x hx => by cases hx; exact hb3'.size⟩, below_then hb3' hb4⟩
set_option maxHeartbeats 8000000 in
theorem bread_go (h : Bk B w F k p g S l t) (hln : S.ws.length ≤ 900000) (hV : Vars w) (q : Pt) (hq : q.ok) (hok0 : okK S q = 0) (hhole : q.hole = false) (R : List Int) (E : Int) (n : Nat)
 (H1 : Hid (rightL S q.x q.h = true → R = readW S.laid S.ws q.x ∧ E = 0 ∧ n = 256)) (H2 : Hid (rightL S q.x q.h = false → rightL S q.y q.h = true → R = readW S.laid S.ws q.y ∧ E = 0 ∧ n = 256)) (H3 : Hid (rightL S q.x q.h = false → rightL S q.y q.h = false → R = [] ∧ E = 9 ∧ n = 0)) :
 Calls Tryd.prog 52 #[.pointer (some ⟨k, 0, none⟩), .agg q.vs.toArray] w fun e w' => ∃ a c, e = .returned (.tuple #[.slice a n c, .int .i64 E]) ∧ NewB w.heap.size w' a c R ∧ Below w.heap.size w w' := by
 have hoff := (okK_zero hok0).1
 have hgood : ∀ u (x : Nat), Below w.heap.size w u → x < 4294967296 → rightL S x q.h = true → Calls Tryd.prog 107 #[.pointer (some ⟨k, 0, none⟩), .int .u32 (x : Int), .agg (q.h.map (Value.int .u8)).toArray] u fun e w' => ∃ a c, e = .returned (.tuple #[.slice a 256 c, .bool true]) ∧ NewB u.heap.size w' a c (readW S.laid S.ws x) ∧ Below u.heap.size u w' := fun u x hu hx hr => right_good (h.stays hu) hln (hV.stays hu) hoff x hx q.h hq.len hr
 have hbad : ∀ u (x : Nat), Below w.heap.size w u → x < 4294967296 → rightL S x q.h = false → Calls Tryd.prog 107 #[.pointer (some ⟨k, 0, none⟩), .int .u32 (x : Int), .agg (q.h.map (Value.int .u8)).toArray] u fun e w' => e = .returned (.tuple #[.slice none 0 0, .bool false]) ∧ Below u.heap.size u w' := fun u x hu hx hr => right_bad (h.stays hu) hln (hV.stays hu) hoff x hx q.h hq.len hr
 have hvl := Pt.vs_len hq
 have HX : Hid ([Value.int .u32 (q.x : Int), .int .u32 (q.y : Int)] = (q.vs.drop 33).take 2) := Pt.vs_at hq
 have HH : Hid (q.h.map (Value.int .u8) = (q.vs.drop 0).take 32) := Pt.vs_hash hq
 have hix0 : ∀ u : World, (Instr.index 40 (.agg #[.int .u32 (q.x : Int), .int .u32 (q.y : Int)]) (.int .i64 0)).run Tryd.prog u = .ok (.int .u32 (q.x : Int)) u := fun u => index_agg (j := 0) Tryd.underlying40 Tryd.underlying34 (by kernel_rfl) (by omega) rfl .i64 u
 have hix1 : ∀ u : World, (Instr.index 40 (.agg #[.int .u32 (q.x : Int), .int .u32 (q.y : Int)]) (.int .i64 1)).run Tryd.prog u = .ok (.int .u32 (q.y : Int)) u := fun u => index_agg (j := 1) Tryd.underlying40 Tryd.underlying34 (by kernel_rfl) (by omega) rfl .i64 u
 have hal : ∀ u, Below w.heap.size w u → Calls Tryd.prog 106 #[.pointer (some ⟨k, 0, none⟩), .agg q.vs.toArray] u fun e w' => e = .returned (.int .i64 (okK S q)) ∧ Below u.heap.size u w' := fun u hu => allows_run (h.stays hu) hln q hq
 have hho := isHole_run q hq
 obtain ⟨vs, hvs⟩ : ∃ vs, vs = q.vs := ⟨_, rfl⟩
 obtain ⟨hs, hhs⟩ : ∃ hs, hs = q.h.map (Value.int .u8) := ⟨_, rfl⟩
 have hhl : hs.length = 32 := by rw [hhs, List.length_map, hq.len]
 rw [← hvs] at hvl hal hho HX HH ⊢
 rw [← hhs] at HH
 have HHS : Hid (hs = q.h.map (Value.int .u8)) := hhs
 clear hvs hhs
 rw [← HHS.out] at hgood hbad
 rw [hok0] at hal
 rw [hhole] at hho
 clear hok0 hoff
 go_enter Tryd.func52, Tryd.ntmps52
 go_wp2_with (first
  | ((with_reducible show wpList _ _ _ (Oper.mk _ (Op.box _ _) _ _ _ _ :: _) _ _); refine wpList_box0 (by rfl) 42 (.tmp 1) (by rfl) vs (by rfl) ?_; intro w1 hL1 hb1 hs1; clear hs1)
  | ((with_reducible show wpList _ _ _ (Oper.mk _ (Op.load 42 _) _ _ _ _ :: _) _ _); refine wpList_load_blk (by rfl) (.tmp 3) 42 (by rfl) _ 0 35 (by rfl) agg_ptr size_ptr hL1 _ (whole_load hvl) hvl ?_)
  | ((with_reducible show wpList _ _ _ (Oper.mk _ (Op.load 42 _) _ _ _ _ :: _) _ _); refine wpList_load_blk (by rfl) (.tmp 3) 42 (by rfl) _ 0 35 (by rfl) agg_ptr size_ptr hL2 _ (whole_load hvl) hvl ?_)
  | (go_at_call 106; go_must (refine (hal _ hb1).mono ?_); rintro e w2 ⟨rfl, hb2⟩
     have hL2 := hL1.stays hb2)
  | (go_at_call 87; go_must (refine (hho _).mono ?_); rintro e w3 ⟨rfl, hb3⟩
     have hL3 := hL2.stays hb3)
  | ((with_reducible show wpList _ _ _ (Oper.mk _ (Op.load 40 _) _ _ _ _ :: _) _ _); refine wpList_load_blk (by rfl) (.tmp 20) 40 (by rfl) _ 33 2 (by rfl) agg_at size_at hL3 _ HX.out rfl ?_))
 have hb3' := below_then (below_then hb1 hb2) hb3
 clear hL1 hL2 hal hho
 go_loopw [22] (fun i wr => (i = .int .i64 0 ∧ wr = w3) ∨ (i = .int .i64 1 ∧ rightL S q.x q.h = false ∧ Blk 42 wr w.heap.size vs ∧ Below w.heap.size w wr) ∨ (i = .int .i64 2 ∧ (rightL S q.x q.h = false ∧ rightL S q.y q.h = false) ∧ Below w.heap.size w wr)) (fun i _ => 2 - (intOf i).toNat)
 case atStart => exact .inl ⟨rfl, rfl⟩
 case round =>
  rename_i hrel
  rcases hrel with ⟨rfl, rfl⟩ | ⟨rfl, hr0, hL4, hb4⟩ | ⟨rfl, ⟨hr0, hr1⟩, hb4⟩
  · cases hr : rightL S q.x q.h
    · have hcl := hbad _ q.x hb3' hq.x hr
      go_wp2_with (first
       | ((with_reducible show wpList _ _ _ (Oper.mk _ (Op.load 39 _) _ _ _ _ :: _) _ _); refine wpList_load_blk (by rfl) (.tmp 28) 39 (by rfl) _ 0 32 (by rfl) agg_hsh size_hash hL3 _ HH.out hhl ?_)
       | (go_at_call 107; go_must (refine hcl.mono ?_); rintro e w4 ⟨rfl, hb4⟩))
      exact ⟨.inr (.inl ⟨rfl, (by first | exact hr | trivial), hL3.stays hb4, below_then hb3' hb4⟩), by decide⟩
    · have hcl := hgood _ q.x hb3' hq.x hr
      go_wp2_with (first
       | ((with_reducible show wpList _ _ _ (Oper.mk _ (Op.load 39 _) _ _ _ _ :: _) _ _); refine wpList_load_blk (by rfl) (.tmp 28) 39 (by rfl) _ 0 32 (by rfl) agg_hsh size_hash hL3 _ HH.out hhl ?_)
       | (go_at_call 107; go_must (refine hcl.mono ?_); rintro e w4 ⟨a4, c4, rfl, hN4, hb4⟩))
      go_ret2
      obtain ⟨e1, e2, e3⟩ := H1.out hr
      rw [e1, e2, e3]
      exact ⟨a4, c4, rfl, hN4.mono hb3'.size, below_then hb3' hb4⟩
  · cases hr : rightL S q.y q.h
    · have hcl := hbad _ q.y hb4 hq.y hr
      go_wp2_with (first
       | ((with_reducible show wpList _ _ _ (Oper.mk _ (Op.load 39 _) _ _ _ _ :: _) _ _); refine wpList_load_blk (by rfl) (.tmp 28) 39 (by rfl) _ 0 32 (by rfl) agg_hsh size_hash hL4 _ HH.out hhl ?_)
       | (go_at_call 107; go_must (refine hcl.mono ?_); rintro e w5 ⟨rfl, hb5⟩))
      exact ⟨.inr (.inr ⟨rfl, ⟨hr0, (by first | exact hr | trivial)⟩, below_then hb4 hb5⟩), by decide⟩
    · have hcl := hgood _ q.y hb4 hq.y hr
      go_wp2_with (first
       | ((with_reducible show wpList _ _ _ (Oper.mk _ (Op.load 39 _) _ _ _ _ :: _) _ _); refine wpList_load_blk (by rfl) (.tmp 28) 39 (by rfl) _ 0 32 (by rfl) agg_hsh size_hash hL4 _ HH.out hhl ?_)
       | (go_at_call 107; go_must (refine hcl.mono ?_); rintro e w5 ⟨a5, c5, rfl, hN5, hb5⟩))
      go_ret2
      obtain ⟨e1, e2, e3⟩ := H2.out hr0 hr
      rw [e1, e2, e3]
      exact ⟨a5, c5, rfl, hN5.mono hb4.size, below_then hb4 hb5⟩
  · go_wp2
    go_ret2
    obtain ⟨e1, e2, e3⟩ := H3.out hr0 hr1
    rw [e1, e2, e3]
    exact ⟨none, 0, rfl, NewB.none _ _, hb4⟩
theorem bread_run (h : Bk B w F k p g S l t) (hln : S.ws.length ≤ 900000) (hV : Vars w) (q : Pt) (hq : q.ok) :
 Calls Tryd.prog 52 #[.pointer (some ⟨k, 0, none⟩), .agg q.vs.toArray] w fun e w' => ∃ a c, e = .returned (.tuple #[.slice a (readK S q).1.length c, .int .i64 (readK S q).2]) ∧ NewB w.heap.size w' a c (readK S q).1 ∧ Below w.heap.size w w' := by
 obtain ⟨n, hok⟩ := h.dk.ok
 by_cases h1 : okK S q = 0
 · cases h2 : q.hole
   · refine bread_go h hln hV q hq h1 h2 _ _ _ ?_ ?_ ?_
     · intro hr
       have : readK S q = (readW S.laid S.ws q.x, 0) := by unfold readK; rw [if_neg (by simp [h1]), h2, if_neg (by decide), if_pos hr]
       rw [this]; exact ⟨rfl, rfl, (readW_ok hok (rightL_lt hok hr).1).1⟩
     · intro hr0 hr
       have : readK S q = (readW S.laid S.ws q.y, 0) := by unfold readK; rw [if_neg (by simp [h1]), h2, if_neg (by decide), hr0, if_neg (by decide), if_pos hr]
       rw [this]; exact ⟨rfl, rfl, (readW_ok hok (rightL_lt hok hr).1).1⟩
     · intro hr0 hr
       have : readK S q = ([], 9) := by unfold readK; rw [if_neg (by simp [h1]), h2, if_neg (by decide), hr0, if_neg (by decide), hr, if_neg (by decide)]
       rw [this]; exact ⟨rfl, rfl, rfl⟩
   · have : readK S q = (zeros256, 0) := by unfold readK; rw [if_neg (by simp [h1]), if_pos h2]
     rw [this]
     simp only [zeros256_len]
     exact bread_hole h hln q hq h1 h2
 · have : readK S q = ([], okK S q) := by unfold readK; rw [if_pos h1]
   rw [this]
   refine (bread_err h hln q hq (by simpa using h1)).mono ?_
   rintro e w' ⟨rfl, hb⟩
   exact ⟨none, 0, rfl, NewB.none _ _, hb⟩
end
end Go.Proofs.YthbldjnpnligpaaDoor

/-
 Sectors given back behind a write that failed; what a bank's number of copies tells; plain data, no function here.
-/

namespace Go.Proofs.YthbldjnpnligpaaDoor
set_option linter.unusedSimpArgs false
set_option linter.unusedVariables false
set_option maxRecDepth 100000
open Go.RowKit
def giveAll (l : List Bool) (o : List Nat) : List Bool := o.foldl (fun l i => (giveL l i).1) l
theorem giveAll_more (l : List Bool) (o : List Nat) (i : Nat) : giveAll l (o ++ [i]) = (giveL (giveAll l o) i).1 := by
 unfold giveAll; rw [List.foldl_append]; rfl
theorem giveAll_len (o : List Nat) : ∀ l, (giveAll l o).length = l.length := by
 induction o with
 | nil => intro l; rfl
 | cons k o ih => intro l; show (giveAll _ o).length = _; rw [ih]; exact giveL_len l k
theorem giveL_at {l : List Bool} (i j : Nat) (hj : j < l.length) : (giveL l i).1.getD j false = if i = j ∧ 4 ≤ i then false else l.getD j false := by
 unfold giveL
 by_cases h : i < l.length ∧ 4 ≤ i ∧ l.getD i false = true
 · rw [if_pos h]
   simp only
   rw [getD_set _ _ _ _ h.1]
   by_cases e : i = j
   · rw [if_pos e, if_pos ⟨e, h.2.1⟩]
   · rw [if_neg e, if_neg (fun x => e x.1)]
 · rw [if_neg h]
   by_cases e : i = j ∧ 4 ≤ i
   · rw [if_pos e]
     obtain ⟨rfl, e4⟩ := e
     cases hx : l.getD i false
     · rfl
     · exact absurd ⟨hj, e4, hx⟩ h
   · rw [if_neg e]
theorem giveAll_at (o : List Nat) : ∀ (l : List Bool) (j : Nat), j < l.length → (giveAll l o).getD j false = if j ∈ o ∧ 4 ≤ j then false else l.getD j false := by
 induction o with
 | nil => intro l j hj; simp [giveAll]
 | cons k o ih =>
   intro l j hj
   show (giveAll (giveL l k).1 o).getD j false = _
   rw [ih _ j (by rw [giveL_len]; exact hj), giveL_at k j hj]
   by_cases h1 : j ∈ o ∧ 4 ≤ j
   · rw [if_pos h1, if_pos ⟨List.mem_cons_of_mem _ h1.1, h1.2⟩]
   · rw [if_neg h1]
     by_cases h2 : k = j ∧ 4 ≤ k
     · rw [if_pos h2, if_pos ⟨by rw [h2.1]; exact List.mem_cons_self, by omega⟩]
     · rw [if_neg h2, if_neg]
       rintro ⟨h3, h4⟩
       rcases List.mem_cons.1 h3 with h5 | h5
       · exact h2 ⟨h5.symm, by omega⟩
       · exact h1 ⟨h5, h4⟩
theorem Lab.giveAll {l : List Bool} (h : Lab l) (h4 : 4 ≤ l.length) (o : List Nat) : Lab (giveAll l o) := fun i hi => by
 rw [giveAll_at _ _ _ (by omega), if_neg (by omega)]; exact h i hi
theorem giveAll_take {l : List Bool} (h : Lab l) (k : Int) : giveAll (takeL l k).1 (takeL l k).2.1 = l := by
 unfold takeL
 split
 · rfl
 · split
   · rfl
   · refine List.ext_getElem (by rw [giveAll_len, setAll_len]) fun j h1 h2 => ?_
     have hj : j < l.length := h2
     have hg := giveAll_at ((Fr l l.length).take k.toNat) (setAll l ((Fr l l.length).take k.toNat)) j (by rw [setAll_len]; exact hj)
     rw [setAll_at _ _ _ hj] at hg
     have e1 : ∀ (xs : List Bool) (hx : j < xs.length), xs.getD j false = xs[j] := fun xs hx => by simp [List.getD, hx]
     rw [e1 _ h1, e1 _ h2] at hg
     rw [hg]
     by_cases hm : j ∈ (Fr l l.length).take k.toNat
     · have hf := (Fr_mem.1 (List.mem_of_mem_take hm)).2
       rw [e1 _ h2] at hf
       have h4 : 4 ≤ j := by
        rcases Nat.lt_or_ge j 4 with h5 | h5
        · have := h j h5; rw [e1 _ h2, hf] at this; cases this
        · exact h5
       rw [if_pos ⟨hm, h4⟩, hf]
     · rw [if_neg (fun x => hm x.1)]
       simp [hm]
theorem takeL_bound (l : List Bool) (k : Int) : ∀ x ∈ (takeL l k).2.1, x < l.length ∧ l.getD x false = false := by
 unfold takeL
 split
 · simp
 · split
   · simp
   · intro x hx; exact Fr_mem.1 (List.mem_of_mem_take hx)
theorem takeL_count {l : List Bool} {k : Int} (h : (takeL l k).2.2 = 0) : (takeL l k).2.1.length = k.toNat := by
 unfold takeL at *
 by_cases h1 : k < 0 ∨ 8 < k
 · rw [if_pos h1] at h; simp at h
 · rw [if_neg h1] at h ⊢
   by_cases h2 : (freeN l : Int) < k
   · rw [if_pos h2] at h; simp at h
   · rw [if_neg h2]
     simp only [List.length_take, Fr_all]
     omega
theorem wrK_fst (b : List Int) (S : DS) (xs ys : List Nat) (S' : DS) (h : wrK b S xs = (S', 0)) : wrK b S (xs ++ ys) = wrK b S' ys := by
 induction xs generalizing S with
 | nil => simp [wrK] at h; rw [h]; rfl
 | cons x xs ih =>
   simp only [List.cons_append, wrK] at h ⊢
   split at h
   · next h1 => rw [if_pos h1]; exact ih _ h
   · next h1 => exact absurd (by rw [h]) h1
theorem wrK_bad (b : List Int) (S : DS) (xs : List Nat) (x : Nat) (ys : List Nat) (S' : DS) (h : wrK b S xs = (S', 0)) (hx : (S'.write (x : Int) b).2 ≠ 0) : wrK b S (xs ++ x :: ys) = S'.write (x : Int) b := by
 rw [wrK_fst b S xs _ S' h]
 simp only [wrK]
 rw [if_neg hx]
end Go.Proofs.YthbldjnpnligpaaDoor
