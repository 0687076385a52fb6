/-
  What calls leave of a disk, one behind the other.
-/
import Derived.Test.YtcfjkkjjcljaoaaDoorG28
namespace Go.Proofs.YtcfjkkjjcljaoaaDoor
set_option linter.unusedSimpArgs false
set_option linter.unusedVariables false
set_option maxRecDepth 100000
open Go.RowKit

section
variable {B : Nat} {w w' : World} {F : Nat → Prop} {k p g : Nat} {S S' : DS} {l l' : List Bool} {t : Nat}

theorem then_trans {w1 w2 : World} {S1 S2 : DS} (ht : Then F w w1 p S1) (ht2 : Then (fun j => F j ∨ w.heap.size ≤ j) w1 w2 p S2) : Then F w w2 p S2 := by
  refine ⟨ht2.1.mono (fun j hj _ => ?_), ?_⟩
  · rcases hj with (hj | hj) | hj
    · exact .inl hj
    · exact .inr hj
    · exact .inr (by have := ht.2.size; omega)
  · exact ⟨ht2.2.os.trans ht.2.os, ht2.2.tape.trans ht.2.tape, ht2.2.output.trans ht.2.output, by have := ht.2.size; have := ht2.2.size; omega,
      fun j hj hl => (ht2.2.block j (fun hh => hh.elim hj (fun h2 => by omega)) (by have := ht.2.size; omega)).trans (ht.2.block j hj hl)⟩
theorem then_below {w1 w2 : World} {S2 : DS} (hb : Below w.heap.size w w1) (ht : Then F w1 w2 p S2) : Then F w w2 p S2 := by
  refine ⟨ht.1.mono (fun j hj _ => ?_), ?_⟩
  · rcases hj with hj | hj
    · exact .inl hj
    · exact .inr (by have := hb.size; omega)
  · exact ⟨ht.2.os.trans hb.os, ht.2.tape.trans hb.tape, ht.2.output.trans hb.output, by have := hb.size; have := ht.2.size; omega,
      fun j hj hl => (ht.2.block j hj (by have := hb.size; omega)).trans (hb.block j hl)⟩
theorem then_after {w1 w2 : World} {S1 : DS} (ht : Then F w w1 p S1) (hb : Below w1.heap.size w1 w2) : Then F w w2 p S1 := by
  refine ⟨ht.1.stays hb, ht.2.os ▸ hb.os, ?_, ?_, by have := hb.size; have := ht.2.size; omega, fun j hj hl => (hb.block j (by have := ht.2.size; omega)).trans (ht.2.block j hj hl)⟩
  · exact hb.tape.trans ht.2.tape
  · exact hb.output.trans ht.2.output
theorem bs_keep {a : Option Addr} {c : Nat} {xs : List Int} (hf : Frm F w w') (hB : Bs w a c xs) (hn : ∀ x, a = some x → ¬ F x.block) : Bs w' a c xs := by
  refine ⟨hB.rng, hB.cap, hB.capm, hB.nul, ?_⟩
  rcases hB.lay with h0 | ⟨b, off, hbe, hcell⟩
  · exact .inl h0
  · refine .inr ⟨b, off, hbe, fun i hi => ?_⟩
    subst hbe
    rw [World.cell?_of_block (w := w) (hf.block b (hn _ rfl) (World.block_lt_of_cell? w _ (hcell i hi)))]
    exact hcell i hi
theorem us_keep {a : Option Addr} {ks : List Nat} (hf : Frm F w w') (hB : Us w a ks) (hn : ∀ x, a = some x → ¬ F x.block) : Us w' a ks := by
  refine ⟨hB.rng, ?_⟩
  rcases hB.lay with h0 | ⟨b, off, hbe, hcell⟩
  · exact .inl h0
  · refine .inr ⟨b, off, hbe, fun i hi => ?_⟩
    subst hbe
    rw [World.cell?_of_block (w := w) (hf.block b (hn _ rfl) (World.block_lt_of_cell? w _ (hcell i hi)))]
    exact hcell i hi
theorem Bk.base (h : Bk B w F k p g S l t) : B ≤ w.heap.size := by have := h.lk; have := h.bb.lt; omega
/-- The bank behind a call of its disk. -/
theorem Bk.after (h : Bk B w F k p g S l t) (ht : Then F w w' p S') (hs : S'.laid = S.laid) : ∃ F', Bk B w' F' k p g S' l t := by
  obtain ⟨F', h1, _⟩ := bthen_dk h h.base ht (by rw [hs])
  exact ⟨F', h1⟩
theorem Bk.but_new {m : Nat} (h : Bk B w F k p g S l t) (hb : But m w w') (hm : w.heap.size ≤ m) : Bk B w' F k p g S l t :=
  h.but hb (fun hf => by have := (h.low _ hf).2; omega) (fun e => by have := h.mp.blk.lt; omega) (fun e => by have := h.bb.lt; omega)
theorem stepR_on {b h : List Int} {x : Nat} {s : DS × Nat} (hoff : s.1.off = false) (h0 : (stepR b h x s).2 = 0) : (stepR b h x s).1.1.off = false := by
  unfold stepR at *
  split
  · exact hoff
  · rename_i h1
    rw [if_neg h1] at h0
    split
    · rename_i h2; exact (write_on (by rw [h2]; decide)).1
    · rename_i h2
      rw [if_neg h2] at h0
      split
      · rename_i h3; exact (write_on (by rw [h3]; decide)).1
      · rename_i h3
        rw [if_neg h3] at h0
        simp only at h0
        exact absurd h0 h2
theorem stepR_two (b h : List Int) (x : Nat) (s : DS × Nat) : (stepR b h x s).1.2 ≤ s.2 + 1 := by
  unfold stepR
  repeat' split
  all_goals (simp only; omega)
theorem restK_two (S : DS) (q : Pt) (b : List Int) : (restK S q b).1.2 ≤ 2 := by
  have h1 := stepR_two b q.h q.x (S, 0)
  have h2 := stepR_two b q.h q.y (stepR b q.h q.x (S, 0)).1
  unfold restK
  simp only at h1
  split <;> omega
end

end Go.Proofs.YtcfjkkjjcljaoaaDoor

/-
  bank.restore.
-/

namespace Go.Proofs.YtcfjkkjjcljaoaaDoor
set_option linter.unusedSimpArgs false
set_option linter.unusedVariables false
set_option maxRecDepth 100000
open Go.RowKit

section
variable {B : Nat} {w w' : World} {F : Nat → Prop} {k p g : Nat} {S S' : DS} {l l' : List Bool} {t : Nat}

theorem Hid.mk {P : Prop} (h : P) : Hid P := h
set_option maxHeartbeats 40000000 in
theorem restore_run (h : Bk B w F k p g S l t) (hln : S.ws.length ≤ 800000) (hV : Vars w) (hB2 : 2 ≤ B) (hoff : S.off = false) (q : Pt) (hq : q.ok) (a : Option Addr) (c : Nat) (bs : List Int) (hB : Bs w a c bs) (h256 : bs.length = 256) (hnF : ∀ x, a = some x → ¬ F x.block) :
    Calls Tryd.prog 69 #[.pointer (some ⟨k, 0, none⟩), .agg q.vs.toArray, .slice a 256 c] w fun e w' => e = .returned (.tuple #[.int .i64 ((restK S q bs).1.2 : Int), .int .i64 (restK S q bs).2]) ∧ Then F w w' p (restK S q bs).1.1 := by
  have hvl := Pt.vs_len hq
  have HX : Hid ([Value.int .u32 (q.x : Int), .int .u32 (q.y : Int)] = (q.vs.drop 33).take 2) := Pt.vs_at hq
  have HH : Hid (q.h.map (Value.int .u8) = (q.vs.drop 0).take 32) := Pt.vs_hash hq
  have hix0 : ∀ u : World, (Instr.index 40 (.agg #[.int .u32 (q.x : Int), .int .u32 (q.y : Int)]) (.int .i64 0)).run Tryd.prog u = .ok (.int .u32 (q.x : Int)) u := fun u => index_agg (j := 0) Tryd.underlying40 Tryd.underlying34 (by kernel_rfl) (by omega) rfl .i64 u
  have hix1 : ∀ u : World, (Instr.index 40 (.agg #[.int .u32 (q.x : Int), .int .u32 (q.y : Int)]) (.int .i64 1)).run Tryd.prog u = .ok (.int .u32 (q.y : Int)) u := fun u => index_agg (j := 1) Tryd.underlying40 Tryd.underlying34 (by kernel_rfl) (by omega) rfl .i64 u
  obtain ⟨vs, hvs⟩ : ∃ vs, vs = q.vs := ⟨_, rfl⟩
  obtain ⟨hs, hhs⟩ : ∃ hs, hs = q.h.map (Value.int .u8) := ⟨_, rfl⟩
  have hhl : hs.length = 32 := by rw [hhs, List.length_map, hq.len]
  rw [← hvs] at hvl HX HH ⊢
  rw [← hhs] at HH
  have HHS : Hid (hs = q.h.map (Value.int .u8)) := hhs
  clear hvs hhs
  have hrest : ∀ {s : DS × Nat}, stepR bs q.h q.x (S, 0) = (s, 0) → restK S q bs = stepR bs q.h q.y s := fun he => by unfold restK; rw [he, if_neg (by simp)]
  go_enter Tryd.func69, Tryd.ntmps69
  go_wp2_with (first
    | ((with_reducible show wpList _ _ _ (Oper.mk _ (Op.box _ _) _ _ _ _ :: _) _ _); refine wpList_box0 (by rfl) 42 (.tmp 1) (by rfl) vs (by rfl) ?_; intro w1 hL1 hb1 hs1; clear hs1)
    | ((with_reducible show wpList _ _ _ (Oper.mk _ (Op.load 40 _) _ _ _ _ :: _) _ _); refine wpList_load_blk (by rfl) (.tmp 14) 40 (by rfl) _ 33 2 (by rfl) agg_at size_at hL1 _ HX.out rfl ?_))
  have hBk1 := h.stays hb1
  have hB1 := hB.stays hb1
  have hnb : ¬ F w.heap.size := fun hf => by have := (h.low _ hf).2; omega
  clear hB
  go_loopw [8, 16] (fun n i wr => (i = .int .i64 0 ∧ n = .int .i64 0 ∧ w1 = wr) ∨ (i = .int .i64 1 ∧ ∃ s : DS × Nat, Hid (stepR bs q.h q.x (S, 0) = (s, 0)) ∧ n = .int .i64 (s.2 : Int) ∧ Then F w1 wr p s.1) ∨ (i = .int .i64 2 ∧ ∃ s : DS × Nat, Hid (restK S q bs = (s, 0)) ∧ n = .int .i64 (s.2 : Int) ∧ Then F w1 wr p s.1)) (fun _ i _ => 2 - (intOf i).toNat)
  case atStart => exact .inl ⟨rfl, rfl, rfl⟩
  case round =>
    rename_i hrel
    rcases hrel with ⟨rfl, rfl, rfl⟩ | ⟨rfl, s, HS, rfl, htr⟩ | ⟨rfl, s, HS, rfl, htr⟩
    · have htr : Then F w1 w1 p S := then_same hBk1.dk (Below.refl _ _)
      have hLr := hL1
      have hBk := hBk1
      have hlr : S.ws.length ≤ 900000 := by omega
      have hVr := hV.stays hb1
      have hor := hoff
      cases hr : rightL S q.x q.h
      · have hcl := right_bad hBk hlr (hVr) hor q.x hq.x q.h hq.len hr
        rw [← HHS.out] at hcl
        by_cases h0 : q.x = 0
        · have hz0 : (((q.x : Nat) : Int) == 0) = true := by simp; omega
          have hz1 : decide (((q.x : Nat) : Int) = 0) = true := by simp; omega
          have HZ : Hid (q.x = 0) := h0
          clear h0
          go_wp2_with (first
            | ((with_reducible show wpList _ _ _ (Oper.mk _ (Op.load 39 _) _ _ _ _ :: _) _ _); refine wpList_load_blk (by rfl) (.tmp 22) 39 (by rfl) _ 0 32 (by rfl) agg_hsh size_hash hLr _ HH.out hhl ?_)
            | (go_at_call 68; go_must (refine hcl.mono ?_); rintro e w5 ⟨rfl, hb5⟩
               have ht5 := then_after htr hb5))
          go_roundw
          case rel => exact .inr (.inl ⟨rfl, (S, 0), Hid.mk (by unfold stepR; rw [if_pos (.inr HZ.out)]), rfl, ht5⟩)
          case measure => decide
        · have h0i : ¬ (((q.x : Nat) : Int) = 0) := by omega
          have hwr : IntKind.i64.wrap ((q.x : Nat) : Int) = ((q.x : Nat) : Int) := by rw [IntKind.wrap_i64]; have := hq.x; omega
          have hno : ¬ (rightL S q.x q.h = true ∨ q.x = 0) := by rw [hr]; simp [h0]
          have HNO : Hid (¬ (rightL S q.x q.h = true ∨ q.x = 0)) := hno
          clear hno
          have hwc : ∀ w5, Then F w1 w5 p S → Calls Tryd.prog 97 #[.pointer (some ⟨p, 0, none⟩), .int .i64 ((q.x : Nat) : Int), .slice a 256 c] w5 fun e w' => e = .returned (.int .i64 (S.write ((q.x : Nat) : Int) bs).2) ∧ Then F w1 w' p (S.write ((q.x : Nat) : Int) bs).1 := fun w5 ht5 => by
            have hB5 := bs_keep ht5.2 hB1 hnF
            have := dk_write ht5.1 ((q.x : Nat) : Int) a c bs hB5 (fun x hx hf => hf.elim (hnF x hx) (fun h2 => by have := hB1.lt (by intro e; rw [e] at h256; simp at h256) hx; omega)) (by omega)
            rw [h256] at this
            refine this.mono ?_
            rintro e w' ⟨rfl, ht6⟩
            exact ⟨rfl, then_trans ht5 ht6⟩
          have hpc : ∀ w5, Then F w1 w5 p S → w5.cell? ⟨k, 0, none⟩ = some (.pointer (some ⟨p, 0, none⟩)) := fun w5 ht5 => (box_keep ht5.2 hBk1.bb hBk1.fk).cell 0
          rcases write_code S ((q.x : Nat) : Int) bs with hc | hc | hc
          · obtain ⟨S6, hS6⟩ : ∃ S6, S6 = (S.write ((q.x : Nat) : Int) bs).1 := ⟨_, rfl⟩
            have HC : Hid (S.write ((q.x : Nat) : Int) bs = (S6, 0)) := by show _ = _; rw [hS6, ← hc]
            rw [hc, ← hS6] at hwc
            clear hc hS6
            go_wp2_with (first
              | ((with_reducible show wpList _ _ _ (Oper.mk _ (Op.load 39 _) _ _ _ _ :: _) _ _); refine wpList_load_blk (by rfl) (.tmp 22) 39 (by rfl) _ 0 32 (by rfl) agg_hsh size_hash hLr _ HH.out hhl ?_)
              | (go_at_call 68; go_must (refine hcl.mono ?_); rintro e w5 ⟨rfl, hb5⟩
                 have ht5 := then_after htr hb5
                 have hpc5 := hpc _ ht5)
              | (go_at_call 97; go_must (refine (hwc _ ht5).mono ?_); rintro e w6 ⟨rfl, ht6⟩))
            go_roundw
            case rel => exact .inr (.inl ⟨rfl, (S6, 0 + 1), Hid.mk (by unfold stepR; rw [if_neg HNO.out, HC.out, if_pos rfl]), rfl, ht6⟩)
            case measure => decide
          · obtain ⟨S6, hS6⟩ : ∃ S6, S6 = (S.write ((q.x : Nat) : Int) bs).1 := ⟨_, rfl⟩
            have HC : Hid (S.write ((q.x : Nat) : Int) bs = (S6, 1)) := by show _ = _; rw [hS6, ← hc]
            rw [hc, ← hS6] at hwc
            clear hc hS6
            go_wp2_with (first
              | ((with_reducible show wpList _ _ _ (Oper.mk _ (Op.load 39 _) _ _ _ _ :: _) _ _); refine wpList_load_blk (by rfl) (.tmp 22) 39 (by rfl) _ 0 32 (by rfl) agg_hsh size_hash hLr _ HH.out hhl ?_)
              | (go_at_call 68; go_must (refine hcl.mono ?_); rintro e w5 ⟨rfl, hb5⟩
                 have ht5 := then_after htr hb5
                 have hpc5 := hpc _ ht5)
              | (go_at_call 97; go_must (refine (hwc _ ht5).mono ?_); rintro e w6 ⟨rfl, ht6⟩))
            go_roundw
            case rel => exact .inr (.inl ⟨rfl, (S6, 0), Hid.mk (by unfold stepR; rw [if_neg HNO.out, HC.out, if_neg (by simp), if_pos rfl]), rfl, ht6⟩)
            case measure => decide
          · obtain ⟨S6, hS6⟩ : ∃ S6, S6 = (S.write ((q.x : Nat) : Int) bs).1 := ⟨_, rfl⟩
            have HC : Hid (S.write ((q.x : Nat) : Int) bs = (S6, 8)) := by show _ = _; rw [hS6, ← hc]
            rw [hc, ← hS6] at hwc
            clear hc hS6
            go_wp2_with (first
              | ((with_reducible show wpList _ _ _ (Oper.mk _ (Op.load 39 _) _ _ _ _ :: _) _ _); refine wpList_load_blk (by rfl) (.tmp 22) 39 (by rfl) _ 0 32 (by rfl) agg_hsh size_hash hLr _ HH.out hhl ?_)
              | (go_at_call 68; go_must (refine hcl.mono ?_); rintro e w5 ⟨rfl, hb5⟩
                 have ht5 := then_after htr hb5
                 have hpc5 := hpc _ ht5)
              | (go_at_call 97; go_must (refine (hwc _ ht5).mono ?_); rintro e w6 ⟨rfl, ht6⟩))
            go_ret2
            have hv : restK S q bs = ((S6, 0), 8) := by
              have h1 : stepR bs q.h q.x (S, 0) = ((S6, 0), 8) := by unfold stepR; rw [if_neg HNO.out, HC.out, if_neg (by simp), if_neg (by simp)]
              unfold restK; rw [h1, if_pos (by simp)]
            rw [hv]
            exact ⟨rfl, then_below hb1 ht6⟩
      · have hcl := right_good hBk hlr (hVr) hor q.x hq.x q.h hq.len hr
        rw [← HHS.out] at hcl
        have HR : Hid (rightL S q.x q.h = true) := hr
        go_wp2_with (first
          | ((with_reducible show wpList _ _ _ (Oper.mk _ (Op.load 39 _) _ _ _ _ :: _) _ _); refine wpList_load_blk (by rfl) (.tmp 22) 39 (by rfl) _ 0 32 (by rfl) agg_hsh size_hash hLr _ HH.out hhl ?_)
          | (go_at_call 68; go_must (refine hcl.mono ?_); rintro e w5 ⟨a5, c5, rfl, _, hb5⟩
             have ht5 := then_after htr hb5))
        go_roundw
        case rel => exact .inr (.inl ⟨rfl, (S, 0), Hid.mk (by unfold stepR; rw [if_pos (.inl HR.out)]), rfl, ht5⟩)
        case measure => decide
    · have hsl : s.1.laid = S.laid := by have := stepR_laid bs q.h q.x (S, 0); rw [HS.out] at this; exact this
      have hsn : s.1.ws.length ≤ S.ws.length + 1 := by have := stepR_len bs q.h q.x (S, 0); rw [HS.out] at this; exact this
      have hor : s.1.off = false := by have := stepR_on (b := bs) (h := q.h) (x := q.x) (s := (S, 0)) hoff (by rw [HS.out]); rw [HS.out] at this; exact this
      have hs2 : s.2 ≤ 1 := by
        have h1 := congrArg (fun z : (DS × Nat) × Int => z.1.2) HS.out
        simp only at h1
        rw [← h1]
        unfold stepR
        repeat' split
        all_goals (simp only; omega)
      obtain ⟨F', hBk⟩ := hBk1.after htr hsl
      have hLr := box_keep htr.2 hL1 hnb
      have hlr : s.1.ws.length ≤ 900000 := by omega
      have hVr : Vars _ := (hV.stays hb1).below (htr.2.below hBk1.base (fun j hj => (hBk1.low j hj).1)) hB2
      cases hr : rightL s.1 q.y q.h
      · have hcl := right_bad hBk hlr (hVr) hor q.y hq.y q.h hq.len hr
        rw [← HHS.out] at hcl
        by_cases h0 : q.y = 0
        · have hz0 : (((q.y : Nat) : Int) == 0) = true := by simp; omega
          have hz1 : decide (((q.y : Nat) : Int) = 0) = true := by simp; omega
          have HZ : Hid (q.y = 0) := h0
          clear h0
          go_wp2_with (first
            | ((with_reducible show wpList _ _ _ (Oper.mk _ (Op.load 39 _) _ _ _ _ :: _) _ _); refine wpList_load_blk (by rfl) (.tmp 22) 39 (by rfl) _ 0 32 (by rfl) agg_hsh size_hash hLr _ HH.out hhl ?_)
            | (go_at_call 68; go_must (refine hcl.mono ?_); rintro e w5 ⟨rfl, hb5⟩
               have ht5 := then_after htr hb5))
          go_roundw
          case rel => exact .inr (.inr ⟨rfl, s, Hid.mk (by rw [hrest HS.out]; unfold stepR; rw [if_pos (.inr HZ.out)]), rfl, ht5⟩)
          case measure => decide
        · have h0i : ¬ (((q.y : Nat) : Int) = 0) := by omega
          have hwr : IntKind.i64.wrap ((q.y : Nat) : Int) = ((q.y : Nat) : Int) := by rw [IntKind.wrap_i64]; have := hq.y; omega
          have hno : ¬ (rightL s.1 q.y q.h = true ∨ q.y = 0) := by rw [hr]; simp [h0]
          have HNO : Hid (¬ (rightL s.1 q.y q.h = true ∨ q.y = 0)) := hno
          clear hno
          have hwc : ∀ w5, Then F w1 w5 p s.1 → Calls Tryd.prog 97 #[.pointer (some ⟨p, 0, none⟩), .int .i64 ((q.y : Nat) : Int), .slice a 256 c] w5 fun e w' => e = .returned (.int .i64 (s.1.write ((q.y : Nat) : Int) bs).2) ∧ Then F w1 w' p (s.1.write ((q.y : Nat) : Int) bs).1 := fun w5 ht5 => by
            have hB5 := bs_keep ht5.2 hB1 hnF
            have := dk_write ht5.1 ((q.y : Nat) : Int) a c bs hB5 (fun x hx hf => hf.elim (hnF x hx) (fun h2 => by have := hB1.lt (by intro e; rw [e] at h256; simp at h256) hx; omega)) (by omega)
            rw [h256] at this
            refine this.mono ?_
            rintro e w' ⟨rfl, ht6⟩
            exact ⟨rfl, then_trans ht5 ht6⟩
          have hpc : ∀ w5, Then F w1 w5 p s.1 → w5.cell? ⟨k, 0, none⟩ = some (.pointer (some ⟨p, 0, none⟩)) := fun w5 ht5 => (box_keep ht5.2 hBk1.bb hBk1.fk).cell 0
          rcases write_code s.1 ((q.y : Nat) : Int) bs with hc | hc | hc
          · obtain ⟨S6, hS6⟩ : ∃ S6, S6 = (s.1.write ((q.y : Nat) : Int) bs).1 := ⟨_, rfl⟩
            have HC : Hid (s.1.write ((q.y : Nat) : Int) bs = (S6, 0)) := by show _ = _; rw [hS6, ← hc]
            rw [hc, ← hS6] at hwc
            clear hc hS6
            go_wp2_with (first
              | ((with_reducible show wpList _ _ _ (Oper.mk _ (Op.load 39 _) _ _ _ _ :: _) _ _); refine wpList_load_blk (by rfl) (.tmp 22) 39 (by rfl) _ 0 32 (by rfl) agg_hsh size_hash hLr _ HH.out hhl ?_)
              | (go_at_call 68; go_must (refine hcl.mono ?_); rintro e w5 ⟨rfl, hb5⟩
                 have ht5 := then_after htr hb5
                 have hpc5 := hpc _ ht5)
              | (go_at_call 97; go_must (refine (hwc _ ht5).mono ?_); rintro e w6 ⟨rfl, ht6⟩))
            go_roundw
            case rel => exact .inr (.inr ⟨rfl, (S6, s.2 + 1), Hid.mk (by rw [hrest HS.out]; unfold stepR; rw [if_neg HNO.out, HC.out, if_pos rfl]), rfl, ht6⟩)
            case measure => decide
          · obtain ⟨S6, hS6⟩ : ∃ S6, S6 = (s.1.write ((q.y : Nat) : Int) bs).1 := ⟨_, rfl⟩
            have HC : Hid (s.1.write ((q.y : Nat) : Int) bs = (S6, 1)) := by show _ = _; rw [hS6, ← hc]
            rw [hc, ← hS6] at hwc
            clear hc hS6
            go_wp2_with (first
              | ((with_reducible show wpList _ _ _ (Oper.mk _ (Op.load 39 _) _ _ _ _ :: _) _ _); refine wpList_load_blk (by rfl) (.tmp 22) 39 (by rfl) _ 0 32 (by rfl) agg_hsh size_hash hLr _ HH.out hhl ?_)
              | (go_at_call 68; go_must (refine hcl.mono ?_); rintro e w5 ⟨rfl, hb5⟩
                 have ht5 := then_after htr hb5
                 have hpc5 := hpc _ ht5)
              | (go_at_call 97; go_must (refine (hwc _ ht5).mono ?_); rintro e w6 ⟨rfl, ht6⟩))
            go_roundw
            case rel => exact .inr (.inr ⟨rfl, (S6, s.2), Hid.mk (by rw [hrest HS.out]; unfold stepR; rw [if_neg HNO.out, HC.out, if_neg (by simp), if_pos rfl]), rfl, ht6⟩)
            case measure => decide
          · obtain ⟨S6, hS6⟩ : ∃ S6, S6 = (s.1.write ((q.y : Nat) : Int) bs).1 := ⟨_, rfl⟩
            have HC : Hid (s.1.write ((q.y : Nat) : Int) bs = (S6, 8)) := by show _ = _; rw [hS6, ← hc]
            rw [hc, ← hS6] at hwc
            clear hc hS6
            go_wp2_with (first
              | ((with_reducible show wpList _ _ _ (Oper.mk _ (Op.load 39 _) _ _ _ _ :: _) _ _); refine wpList_load_blk (by rfl) (.tmp 22) 39 (by rfl) _ 0 32 (by rfl) agg_hsh size_hash hLr _ HH.out hhl ?_)
              | (go_at_call 68; go_must (refine hcl.mono ?_); rintro e w5 ⟨rfl, hb5⟩
                 have ht5 := then_after htr hb5
                 have hpc5 := hpc _ ht5)
              | (go_at_call 97; go_must (refine (hwc _ ht5).mono ?_); rintro e w6 ⟨rfl, ht6⟩))
            go_ret2
            have hv : restK S q bs = ((S6, 0), 8) := by rw [hrest HS.out]; unfold stepR; rw [if_neg HNO.out, HC.out, if_neg (by simp), if_neg (by simp)]
            rw [hv]
            exact ⟨rfl, then_below hb1 ht6⟩
      · have hcl := right_good hBk hlr (hVr) hor q.y hq.y q.h hq.len hr
        rw [← HHS.out] at hcl
        have HR : Hid (rightL s.1 q.y q.h = true) := hr
        go_wp2_with (first
          | ((with_reducible show wpList _ _ _ (Oper.mk _ (Op.load 39 _) _ _ _ _ :: _) _ _); refine wpList_load_blk (by rfl) (.tmp 22) 39 (by rfl) _ 0 32 (by rfl) agg_hsh size_hash hLr _ HH.out hhl ?_)
          | (go_at_call 68; go_must (refine hcl.mono ?_); rintro e w5 ⟨a5, c5, rfl, _, hb5⟩
             have ht5 := then_after htr hb5))
        go_roundw
        case rel => exact .inr (.inr ⟨rfl, s, Hid.mk (by rw [hrest HS.out]; unfold stepR; rw [if_pos (.inl HR.out)]), rfl, ht5⟩)
        case measure => decide
    · have hs2 : s.2 ≤ 2 := by
        have h1 := congrArg (fun z : (DS × Nat) × Int => z.1.2) HS.out
        simp only at h1
        rw [← h1]
        exact restK_two S q bs
      go_wp2
      go_ret2
      rw [HS.out]
      exact ⟨rfl, then_below hb1 htr⟩
end

end Go.Proofs.YtcfjkkjjcljaoaaDoor

/-
  bank.Read and bank.Look.
-/

namespace Go.Proofs.YtcfjkkjjcljaoaaDoor
set_option linter.unusedSimpArgs false
set_option linter.unusedVariables false
set_option maxRecDepth 100000
open Go.RowKit

section
variable {B : Nat} {w w' : World} {F : Nat → Prop} {k p g : Nat} {S S' : DS} {l l' : List Bool} {t : Nat}

set_option maxHeartbeats 4000000 in
theorem bread_err (h : Bk B w F k p g S l t) (hln : S.ws.length ≤ 900000) (q : Pt) (hq : q.ok) (hne : (okK S q != 0) = true) : Calls Tryd.prog 32 #[.pointer (some ⟨k, 0, none⟩), .agg q.vs.toArray] w fun e w' => e = .returned (.tuple #[.slice none 0 0, .int .i64 (okK S q)]) ∧ Below w.heap.size w w' := by
  have hvl := Pt.vs_len hq
  have HX : Hid ([Value.int .u32 (q.x : Int), .int .u32 (q.y : Int)] = (q.vs.drop 33).take 2) := Pt.vs_at hq
  have HH : Hid (q.h.map (Value.int .u8) = (q.vs.drop 0).take 32) := Pt.vs_hash hq
  have hix0 : ∀ u : World, (Instr.index 40 (.agg #[.int .u32 (q.x : Int), .int .u32 (q.y : Int)]) (.int .i64 0)).run Tryd.prog u = .ok (.int .u32 (q.x : Int)) u := fun u => index_agg (j := 0) Tryd.underlying40 Tryd.underlying34 (by kernel_rfl) (by omega) rfl .i64 u
  have hix1 : ∀ u : World, (Instr.index 40 (.agg #[.int .u32 (q.x : Int), .int .u32 (q.y : Int)]) (.int .i64 1)).run Tryd.prog u = .ok (.int .u32 (q.y : Int)) u := fun u => index_agg (j := 1) Tryd.underlying40 Tryd.underlying34 (by kernel_rfl) (by omega) rfl .i64 u
  have hal : ∀ u, Below w.heap.size w u → Calls Tryd.prog 67 #[.pointer (some ⟨k, 0, none⟩), .agg q.vs.toArray] u fun e w' => e = .returned (.int .i64 (okK S q)) ∧ Below u.heap.size u w' := fun u hu => allows_run (h.stays hu) hln q hq
  have hho := isHole_run q hq
  obtain ⟨vs, hvs⟩ : ∃ vs, vs = q.vs := ⟨_, rfl⟩
  obtain ⟨hs, hhs⟩ : ∃ hs, hs = q.h.map (Value.int .u8) := ⟨_, rfl⟩
  have hhl : hs.length = 32 := by rw [hhs, List.length_map, hq.len]
  rw [← hvs] at hvl hal hho HX HH ⊢
  rw [← hhs] at HH
  have HHS : Hid (hs = q.h.map (Value.int .u8)) := hhs
  clear hvs hhs
  obtain ⟨E, hE⟩ : ∃ E, E = okK S q := ⟨_, rfl⟩
  rw [← hE] at hne hal ⊢
  clear hE
  go_enter Tryd.func32, Tryd.ntmps32
  go_wp2_with (first
    | ((with_reducible show wpList _ _ _ (Oper.mk _ (Op.box _ _) _ _ _ _ :: _) _ _); refine wpList_box0 (by rfl) 42 (.tmp 1) (by rfl) vs (by rfl) ?_; intro w1 hL1 hb1 hs1; clear hs1)
    | ((with_reducible show wpList _ _ _ (Oper.mk _ (Op.load 42 _) _ _ _ _ :: _) _ _); refine wpList_load_blk (by rfl) (.tmp 3) 42 (by rfl) _ 0 35 (by rfl) agg_ptr size_ptr hL1 _ (whole_load hvl) hvl ?_)
    | (go_at_call 67; go_must (refine (hal _ hb1).mono ?_); rintro e w2 ⟨rfl, hb2⟩))
  go_ret2
  exact ⟨rfl, below_then hb1 hb2⟩

set_option maxHeartbeats 4000000 in
theorem bread_hole (h : Bk B w F k p g S l t) (hln : S.ws.length ≤ 900000) (q : Pt) (hq : q.ok) (hok0 : okK S q = 0) (hhole : q.hole = true) : Calls Tryd.prog 32 #[.pointer (some ⟨k, 0, none⟩), .agg q.vs.toArray] w fun e w' => ∃ a c, e = .returned (.tuple #[.slice a 256 c, .int .i64 0]) ∧ NewB w.heap.size w' a c zeros256 ∧ Below w.heap.size w w' := by
  have hvl := Pt.vs_len hq
  have HX : Hid ([Value.int .u32 (q.x : Int), .int .u32 (q.y : Int)] = (q.vs.drop 33).take 2) := Pt.vs_at hq
  have HH : Hid (q.h.map (Value.int .u8) = (q.vs.drop 0).take 32) := Pt.vs_hash hq
  have hix0 : ∀ u : World, (Instr.index 40 (.agg #[.int .u32 (q.x : Int), .int .u32 (q.y : Int)]) (.int .i64 0)).run Tryd.prog u = .ok (.int .u32 (q.x : Int)) u := fun u => index_agg (j := 0) Tryd.underlying40 Tryd.underlying34 (by kernel_rfl) (by omega) rfl .i64 u
  have hix1 : ∀ u : World, (Instr.index 40 (.agg #[.int .u32 (q.x : Int), .int .u32 (q.y : Int)]) (.int .i64 1)).run Tryd.prog u = .ok (.int .u32 (q.y : Int)) u := fun u => index_agg (j := 1) Tryd.underlying40 Tryd.underlying34 (by kernel_rfl) (by omega) rfl .i64 u
  have hal : ∀ u, Below w.heap.size w u → Calls Tryd.prog 67 #[.pointer (some ⟨k, 0, none⟩), .agg q.vs.toArray] u fun e w' => e = .returned (.int .i64 (okK S q)) ∧ Below u.heap.size u w' := fun u hu => allows_run (h.stays hu) hln q hq
  have hho := isHole_run q hq
  obtain ⟨vs, hvs⟩ : ∃ vs, vs = q.vs := ⟨_, rfl⟩
  obtain ⟨hs, hhs⟩ : ∃ hs, hs = q.h.map (Value.int .u8) := ⟨_, rfl⟩
  have hhl : hs.length = 32 := by rw [hhs, List.length_map, hq.len]
  rw [← hvs] at hvl hal hho HX HH ⊢
  rw [← hhs] at HH
  have HHS : Hid (hs = q.h.map (Value.int .u8)) := hhs
  clear hvs hhs
  rw [hok0] at hal
  rw [hhole] at hho
  have hi : (Tryd.prog.info? 5).map (fun i => (i.zero, i.size, i.bytes)) = some (some (.int .u8 0), 1, 1) := by kernel_rfl
  obtain ⟨i0, hi0, hz0, hz1, hz2⟩ := info_parts hi
  have HZ : Hid (zeros256 = List.replicate 256 0) := rfl
  clear hok0
  go_enter Tryd.func32, Tryd.ntmps32
  go_wp2_with (first
    | ((with_reducible show wpList _ _ _ (Oper.mk _ (Op.box _ _) _ _ _ _ :: _) _ _); refine wpList_box0 (by rfl) 42 (.tmp 1) (by rfl) vs (by rfl) ?_; intro w1 hL1 hb1 hs1; clear hs1)
    | ((with_reducible show wpList _ _ _ (Oper.mk _ (Op.load 42 _) _ _ _ _ :: _) _ _); refine wpList_load_blk (by rfl) (.tmp 3) 42 (by rfl) _ 0 35 (by rfl) agg_ptr size_ptr hL1 _ (whole_load hvl) hvl ?_)
    | ((with_reducible show wpList _ _ _ (Oper.mk _ (Op.load 42 _) _ _ _ _ :: _) _ _); refine wpList_load_blk (by rfl) (.tmp 3) 42 (by rfl) _ 0 35 (by rfl) agg_ptr size_ptr hL2 _ (whole_load hvl) hvl ?_)
    | (go_at_call 67; go_must (refine (hal _ hb1).mono ?_); rintro e w2 ⟨rfl, hb2⟩
       have hL2 := hL1.stays hb2)
    | (go_at_call 57; go_must (refine (hho _).mono ?_); rintro e w3 ⟨rfl, hb3⟩)
    | (refine wpList_make_bytes (w0 := w3) (by rfl) (.const (.int .i64 256)) (.const (.int .i64 256)) 43 (by rfl) w3.heap.size 5 i0 Tryd.underlying43 hi0 hz0 hz1 hz2 .i64 .i64 256 256 256 (by rfl) (by rfl) (by omega) (by omega) (by omega) (Nat.le_refl _) (Below.refl _ _) ?_; intro w4 hrow4 hb4
       rw [← HZ.out] at hrow4))
  go_ret2
  have hb3' := below_then (below_then hb1 hb2) hb3
  have hB4 := hrow4.bs zeros256_rng (by rw [zeros256_len]; decide)
  rw [zeros256_len] at hB4
  exact ⟨_, _, rfl, ⟨hB4, fun x hx => by cases hx; exact hb3'.size⟩, below_then hb3' hb4⟩

set_option maxHeartbeats 8000000 in
theorem bread_go (h : Bk B w F k p g S l t) (hln : S.ws.length ≤ 900000) (hV : Vars w) (q : Pt) (hq : q.ok) (hok0 : okK S q = 0) (hhole : q.hole = false) (R : List Int) (E : Int) (n : Nat)
    (H1 : Hid (rightL S q.x q.h = true → R = readW S.laid S.ws q.x ∧ E = 0 ∧ n = 256)) (H2 : Hid (rightL S q.x q.h = false → rightL S q.y q.h = true → R = readW S.laid S.ws q.y ∧ E = 0 ∧ n = 256)) (H3 : Hid (rightL S q.x q.h = false → rightL S q.y q.h = false → R = [] ∧ E = 9 ∧ n = 0)) :
    Calls Tryd.prog 32 #[.pointer (some ⟨k, 0, none⟩), .agg q.vs.toArray] w fun e w' => ∃ a c, e = .returned (.tuple #[.slice a n c, .int .i64 E]) ∧ NewB w.heap.size w' a c R ∧ Below w.heap.size w w' := by
  have hoff := (okK_zero hok0).1
  have hgood : ∀ u (x : Nat), Below w.heap.size w u → x < 4294967296 → rightL S x q.h = true → Calls Tryd.prog 68 #[.pointer (some ⟨k, 0, none⟩), .int .u32 (x : Int), .agg (q.h.map (Value.int .u8)).toArray] u fun e w' => ∃ a c, e = .returned (.tuple #[.slice a 256 c, .bool true]) ∧ NewB u.heap.size w' a c (readW S.laid S.ws x) ∧ Below u.heap.size u w' := fun u x hu hx hr => right_good (h.stays hu) hln (hV.stays hu) hoff x hx q.h hq.len hr
  have hbad : ∀ u (x : Nat), Below w.heap.size w u → x < 4294967296 → rightL S x q.h = false → Calls Tryd.prog 68 #[.pointer (some ⟨k, 0, none⟩), .int .u32 (x : Int), .agg (q.h.map (Value.int .u8)).toArray] u fun e w' => e = .returned (.tuple #[.slice none 0 0, .bool false]) ∧ Below u.heap.size u w' := fun u x hu hx hr => right_bad (h.stays hu) hln (hV.stays hu) hoff x hx q.h hq.len hr
  have hvl := Pt.vs_len hq
  have HX : Hid ([Value.int .u32 (q.x : Int), .int .u32 (q.y : Int)] = (q.vs.drop 33).take 2) := Pt.vs_at hq
  have HH : Hid (q.h.map (Value.int .u8) = (q.vs.drop 0).take 32) := Pt.vs_hash hq
  have hix0 : ∀ u : World, (Instr.index 40 (.agg #[.int .u32 (q.x : Int), .int .u32 (q.y : Int)]) (.int .i64 0)).run Tryd.prog u = .ok (.int .u32 (q.x : Int)) u := fun u => index_agg (j := 0) Tryd.underlying40 Tryd.underlying34 (by kernel_rfl) (by omega) rfl .i64 u
  have hix1 : ∀ u : World, (Instr.index 40 (.agg #[.int .u32 (q.x : Int), .int .u32 (q.y : Int)]) (.int .i64 1)).run Tryd.prog u = .ok (.int .u32 (q.y : Int)) u := fun u => index_agg (j := 1) Tryd.underlying40 Tryd.underlying34 (by kernel_rfl) (by omega) rfl .i64 u
  have hal : ∀ u, Below w.heap.size w u → Calls Tryd.prog 67 #[.pointer (some ⟨k, 0, none⟩), .agg q.vs.toArray] u fun e w' => e = .returned (.int .i64 (okK S q)) ∧ Below u.heap.size u w' := fun u hu => allows_run (h.stays hu) hln q hq
  have hho := isHole_run q hq
  obtain ⟨vs, hvs⟩ : ∃ vs, vs = q.vs := ⟨_, rfl⟩
  obtain ⟨hs, hhs⟩ : ∃ hs, hs = q.h.map (Value.int .u8) := ⟨_, rfl⟩
  have hhl : hs.length = 32 := by rw [hhs, List.length_map, hq.len]
  rw [← hvs] at hvl hal hho HX HH ⊢
  rw [← hhs] at HH
  have HHS : Hid (hs = q.h.map (Value.int .u8)) := hhs
  clear hvs hhs
  rw [← HHS.out] at hgood hbad
  rw [hok0] at hal
  rw [hhole] at hho
  clear hok0 hoff
  go_enter Tryd.func32, Tryd.ntmps32
  go_wp2_with (first
    | ((with_reducible show wpList _ _ _ (Oper.mk _ (Op.box _ _) _ _ _ _ :: _) _ _); refine wpList_box0 (by rfl) 42 (.tmp 1) (by rfl) vs (by rfl) ?_; intro w1 hL1 hb1 hs1; clear hs1)
    | ((with_reducible show wpList _ _ _ (Oper.mk _ (Op.load 42 _) _ _ _ _ :: _) _ _); refine wpList_load_blk (by rfl) (.tmp 3) 42 (by rfl) _ 0 35 (by rfl) agg_ptr size_ptr hL1 _ (whole_load hvl) hvl ?_)
    | ((with_reducible show wpList _ _ _ (Oper.mk _ (Op.load 42 _) _ _ _ _ :: _) _ _); refine wpList_load_blk (by rfl) (.tmp 3) 42 (by rfl) _ 0 35 (by rfl) agg_ptr size_ptr hL2 _ (whole_load hvl) hvl ?_)
    | (go_at_call 67; go_must (refine (hal _ hb1).mono ?_); rintro e w2 ⟨rfl, hb2⟩
       have hL2 := hL1.stays hb2)
    | (go_at_call 57; go_must (refine (hho _).mono ?_); rintro e w3 ⟨rfl, hb3⟩
       have hL3 := hL2.stays hb3)
    | ((with_reducible show wpList _ _ _ (Oper.mk _ (Op.load 40 _) _ _ _ _ :: _) _ _); refine wpList_load_blk (by rfl) (.tmp 20) 40 (by rfl) _ 33 2 (by rfl) agg_at size_at hL3 _ HX.out rfl ?_))
  have hb3' := below_then (below_then hb1 hb2) hb3
  clear hL1 hL2 hal hho
  go_loopw [22] (fun i wr => (i = .int .i64 0 ∧ wr = w3) ∨ (i = .int .i64 1 ∧ rightL S q.x q.h = false ∧ Blk 42 wr w.heap.size vs ∧ Below w.heap.size w wr) ∨ (i = .int .i64 2 ∧ (rightL S q.x q.h = false ∧ rightL S q.y q.h = false) ∧ Below w.heap.size w wr)) (fun i _ => 2 - (intOf i).toNat)
  case atStart => exact .inl ⟨rfl, rfl⟩
  case round =>
    rename_i hrel
    rcases hrel with ⟨rfl, rfl⟩ | ⟨rfl, hr0, hL4, hb4⟩ | ⟨rfl, ⟨hr0, hr1⟩, hb4⟩
    · cases hr : rightL S q.x q.h
      · have hcl := hbad _ q.x hb3' hq.x hr
        go_wp2_with (first
          | ((with_reducible show wpList _ _ _ (Oper.mk _ (Op.load 39 _) _ _ _ _ :: _) _ _); refine wpList_load_blk (by rfl) (.tmp 28) 39 (by rfl) _ 0 32 (by rfl) agg_hsh size_hash hL3 _ HH.out hhl ?_)
          | (go_at_call 68; go_must (refine hcl.mono ?_); rintro e w4 ⟨rfl, hb4⟩))
        exact ⟨.inr (.inl ⟨rfl, (by first | exact hr | trivial), hL3.stays hb4, below_then hb3' hb4⟩), by decide⟩
      · have hcl := hgood _ q.x hb3' hq.x hr
        go_wp2_with (first
          | ((with_reducible show wpList _ _ _ (Oper.mk _ (Op.load 39 _) _ _ _ _ :: _) _ _); refine wpList_load_blk (by rfl) (.tmp 28) 39 (by rfl) _ 0 32 (by rfl) agg_hsh size_hash hL3 _ HH.out hhl ?_)
          | (go_at_call 68; go_must (refine hcl.mono ?_); rintro e w4 ⟨a4, c4, rfl, hN4, hb4⟩))
        go_ret2
        obtain ⟨e1, e2, e3⟩ := H1.out hr
        rw [e1, e2, e3]
        exact ⟨a4, c4, rfl, hN4.mono hb3'.size, below_then hb3' hb4⟩
    · cases hr : rightL S q.y q.h
      · have hcl := hbad _ q.y hb4 hq.y hr
        go_wp2_with (first
          | ((with_reducible show wpList _ _ _ (Oper.mk _ (Op.load 39 _) _ _ _ _ :: _) _ _); refine wpList_load_blk (by rfl) (.tmp 28) 39 (by rfl) _ 0 32 (by rfl) agg_hsh size_hash hL4 _ HH.out hhl ?_)
          | (go_at_call 68; go_must (refine hcl.mono ?_); rintro e w5 ⟨rfl, hb5⟩))
        exact ⟨.inr (.inr ⟨rfl, ⟨hr0, (by first | exact hr | trivial)⟩, below_then hb4 hb5⟩), by decide⟩
      · have hcl := hgood _ q.y hb4 hq.y hr
        go_wp2_with (first
          | ((with_reducible show wpList _ _ _ (Oper.mk _ (Op.load 39 _) _ _ _ _ :: _) _ _); refine wpList_load_blk (by rfl) (.tmp 28) 39 (by rfl) _ 0 32 (by rfl) agg_hsh size_hash hL4 _ HH.out hhl ?_)
          | (go_at_call 68; go_must (refine hcl.mono ?_); rintro e w5 ⟨a5, c5, rfl, hN5, hb5⟩))
        go_ret2
        obtain ⟨e1, e2, e3⟩ := H2.out hr0 hr
        rw [e1, e2, e3]
        exact ⟨a5, c5, rfl, hN5.mono hb4.size, below_then hb4 hb5⟩
    · go_wp2
      go_ret2
      obtain ⟨e1, e2, e3⟩ := H3.out hr0 hr1
      rw [e1, e2, e3]
      exact ⟨none, 0, rfl, NewB.none _ _, hb4⟩

theorem bread_run (h : Bk B w F k p g S l t) (hln : S.ws.length ≤ 900000) (hV : Vars w) (q : Pt) (hq : q.ok) :
    Calls Tryd.prog 32 #[.pointer (some ⟨k, 0, none⟩), .agg q.vs.toArray] w fun e w' => ∃ a c, e = .returned (.tuple #[.slice a (readK S q).1.length c, .int .i64 (readK S q).2]) ∧ NewB w.heap.size w' a c (readK S q).1 ∧ Below w.heap.size w w' := by
  obtain ⟨n, hok⟩ := h.dk.ok
  by_cases h1 : okK S q = 0
  · cases h2 : q.hole
    · refine bread_go h hln hV q hq h1 h2 _ _ _ ?_ ?_ ?_
      · intro hr
        have : readK S q = (readW S.laid S.ws q.x, 0) := by unfold readK; rw [if_neg (by simp [h1]), h2, if_neg (by decide), if_pos hr]
        rw [this]; exact ⟨rfl, rfl, (readW_ok hok (rightL_lt hok hr).1).1⟩
      · intro hr0 hr
        have : readK S q = (readW S.laid S.ws q.y, 0) := by unfold readK; rw [if_neg (by simp [h1]), h2, if_neg (by decide), hr0, if_neg (by decide), if_pos hr]
        rw [this]; exact ⟨rfl, rfl, (readW_ok hok (rightL_lt hok hr).1).1⟩
      · intro hr0 hr
        have : readK S q = ([], 9) := by unfold readK; rw [if_neg (by simp [h1]), h2, if_neg (by decide), hr0, if_neg (by decide), hr, if_neg (by decide)]
        rw [this]; exact ⟨rfl, rfl, rfl⟩
    · have : readK S q = (zeros256, 0) := by unfold readK; rw [if_neg (by simp [h1]), if_pos h2]
      rw [this]
      simp only [zeros256_len]
      exact bread_hole h hln q hq h1 h2
  · have : readK S q = ([], okK S q) := by unfold readK; rw [if_pos h1]
    rw [this]
    refine (bread_err h hln q hq (by simpa using h1)).mono ?_
    rintro e w' ⟨rfl, hb⟩
    exact ⟨none, 0, rfl, NewB.none _ _, hb⟩

end

end Go.Proofs.YtcfjkkjjcljaoaaDoor
