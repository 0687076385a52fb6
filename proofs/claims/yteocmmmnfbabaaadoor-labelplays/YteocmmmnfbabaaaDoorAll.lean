/-
  Package sha: All and Sum.
-/
import Derived.Test.YteocmmmnfbabaaaDoorHSum
namespace Go.Proofs.YteocmmmnfbabaaaDoor
set_option linter.unusedSimpArgs false
set_option linter.unusedVariables false
set_option maxRecDepth 100000
open Go.RowKit

/-- Bytes that lie somewhere. -/
structure Part where
  a : Option Addr
  c : Nat
  xs : List Int

def joined (ps : List Part) : List Int := ps.flatMap (·.xs)

/-- A slice of slices. -/
structure Parts (w : World) (pa : Option Addr) (ps : List Part) : Prop where
  lay : ps = [] ∨ ∃ b off, pa = some ⟨b, off, none⟩ ∧ ∀ (i : Nat) (p : Part), ps[i]? = some p → w.cell? ⟨b, off + i, none⟩ = some (.slice p.a p.xs.length p.c)
  bytes : ∀ p ∈ ps, Bs w p.a p.c p.xs

theorem Bs.blk_lt {w : World} {a : Option Addr} {c : Nat} {xs : List Int} (h : Bs w a c xs) (h0 : xs ≠ []) (x : Addr) (hx : a = some x) : x.block < w.heap.size := by
  obtain ⟨b, off, rfl, hc⟩ := h.cell (List.length_pos_iff.2 h0)
  cases hx
  have h1 := hc 0 (List.length_pos_iff.2 h0)
  rcases Nat.lt_or_ge b w.heap.size with h2 | h2
  · exact h2
  · simp [World.cell?, Array.getElem?_eq_none h2] at h1

theorem joined_take (ps : List Part) (k : Nat) (p : Part) (hp : ps[k]? = some p) : joined (ps.take (k + 1)) = joined (ps.take k) ++ p.xs := by
  unfold joined
  rw [List.take_add_one, hp]
  simp

theorem joined_le (ps : List Part) (k : Nat) (p : Part) (hp : ps[k]? = some p) : (joined (ps.take k)).length + p.xs.length ≤ (joined ps).length := by
  have h := joined_take ps k p hp
  have h1 : joined ps = joined (ps.take (k + 1)) ++ joined (ps.drop (k + 1)) := by
    unfold joined
    rw [← List.flatMap_append, List.take_append_drop]
  rw [h1, h]
  simp

set_option maxRecDepth 100000 in
set_option maxHeartbeats 2000000 in
theorem all_run (pa : Option Addr) (pc : Nat) (ps : List Part) (w : World) (hP : Parts w pa ps) (hV : Vars w) (hlen : (joined ps).length < 1000000000000000000) (hpn : ps.length ≤ 9223372036854775807) :
    Calls Tryd.prog 63 #[.slice pa ps.length pc] w fun e w' => e = .returned (.agg ((shaOf (joined ps)).map (Value.int .u8)).toArray) ∧ Below w.heap.size w w' := by
  obtain ⟨N, hN⟩ : ∃ N, N = ps.length := ⟨_, rfl⟩
  have HN : Hid (N = ps.length) := hN
  have hsz := hV.size
  rw [← hN]
  clear hN
  go_enter Tryd.func63, Tryd.ntmps63
  go_wp2_with (go_at_call 72; go_must (refine (new_run _).mono ?_); rintro e w1 ⟨rfl, hH1, hb1, hs1⟩)
  have hN2 : N ≤ 9223372036854775807 := by rw [HN.out]; exact hpn
  have hb0 : ∀ o, Below w.heap.size w (w.alloc o) := fun o => (Below.refl _ _).alloc (Nat.le_refl _) _
  have hR1 : Blk 23 w1 w.heap.size ((List.replicate 32 (0 : Int)).map (Value.int .u8)) := (Blk.newAt rfl rfl).stays hb1
  have hbel1 : Below w.heap.size w w1 := (hb0 _).trans (hb1.mono (by simp))
  have hV1 : Vars w1 := hV.stays hbel1
  have hH2 : HashAt w1 (w.heap.size + 1) (joined (ps.take 0)) := by simpa [joined] using hH1
  clear hH1 hb1 hs1 hb0 hpn
  go_loopw [9] (fun i wr => ∃ k : Nat, k ≤ N ∧ i = .int .i64 k ∧ Below w.heap.size w wr ∧ HashAt wr (w.heap.size + 1) (joined (ps.take k)) ∧ Blk 23 wr w.heap.size ((List.replicate 32 (0 : Int)).map (Value.int .u8))) (fun i _ => N - (intOf i).toNat)
  case atStart => exact ⟨0, by omega, rfl, hbel1, hH2, hR1⟩
  case round =>
    clear hbel1 hH2 hR1 hV1
    rename_i hrel
    obtain ⟨k, hk, rfl, hbel, hH, hR⟩ := hrel
    have hVr : Vars wr := hV.stays hbel
    by_cases hlt : k < N
    · obtain ⟨p, hp⟩ : ∃ p, ps[k]? = some p := ⟨_, List.getElem?_eq_getElem (by rw [← HN.out]; exact hlt)⟩
      have hpm : p ∈ ps := List.mem_of_getElem? hp
      have hBp := hP.bytes p hpm
      obtain ⟨b, off, hpa, hc⟩ := hP.lay.resolve_left (fun h => by rw [h] at hpm; cases hpm)
      have hcell : wr.cell? ⟨b, off + k, none⟩ = some (.slice p.a p.xs.length p.c) := by
        have h1 := hc k p hp
        have hlb : b < w.heap.size := by
          rcases Nat.lt_or_ge b w.heap.size with h2 | h2
          · exact h2
          · simp [World.cell?, Array.getElem?_eq_none h2] at h1
        rw [hbel.cell hlb]
        exact h1
      have hidx : ∀ w, (Instr.indexAt 118 (.slice pa N pc) (.int .i64 (k : Int))).run Tryd.prog w = .ok (.pointer (some ⟨b, off + k, none⟩)) w := by
        rw [hpa]
        exact fun w => index_run (P := Tryd.prog) 118 27 Tryd.underlying118 (by kernel_rfl) (by kernel_rfl) b off N pc .i64 k hlt w
      have hw := write_run (w.heap.size + 1) (joined (ps.take k)) p.a p.c p.xs wr hH (hBp.stays hbel) (fun h0 x hx => by have := hBp.blk_lt h0 x hx; omega) (by have := joined_le ps k p hp; omega) hVr.steps hVr.firsts (by omega) (by omega)
      have HJ : Hid (joined (ps.take (k + 1)) = joined (ps.take k) ++ p.xs) := joined_take ps k p hp
      clear hpa hc hp hP
      go_wp2_with (go_at_call 73; go_must (refine hw.mono ?_); rintro e w2 ⟨rfl, hst2, hbut2⟩)
      go_roundw
      case rel =>
        refine ⟨k + 1, by omega, by go_num, hbel.trans (hbut2.below (by omega) hbel.size), ?_, hR.but hbut2 (by omega)⟩
        rw [HJ.out]; exact hst2.at
      case measure => simp [intOf]; omega
    · have hJ : joined (ps.take k) = joined ps := by rw [List.take_of_length_le (by rw [← HN.out]; omega)]
      rw [hJ] at hH
      have hs := hsum_run (w.heap.size + 1) (joined ps) wr hH hlen hVr
      obtain ⟨us, hus⟩ : ∃ us, us = (shaOf (joined ps)).map (Value.int .u8) := ⟨_, rfl⟩
      rw [← hus] at hs
      have HUS : Hid (us = (shaOf (joined ps)).map (Value.int .u8)) := hus
      have hul : us.length = 32 := by rw [hus, List.length_map, shaOf_length]
      have hu1 : ∀ v ∈ us, v.oneCell' = true := hus ▸ int_oneCell _ _
      have hu2 : Hid (us = ((List.replicate 32 (0 : Int)).map (Value.int .u8)).take 0 ++ us ++ ((List.replicate 32 (0 : Int)).map (Value.int .u8)).drop (0 + 32)) := by
        unfold Hid; rw [List.take_zero, List.nil_append, List.drop_eq_nil_of_le (by simp), List.append_nil]
      have hbs := hbel.size
      clear hus hJ hH hP
      go_wp2_with (first
        | (go_at_call 74; go_must (refine hs.mono ?_); rintro e w2 ⟨rfl, hb2⟩)
        | (refine wpList_store_blk (by rfl) (.tmp 2) (.tmp 18) 23 (by rfl) w.heap.size 0 32 (by rfl) us (by rfl) (sizeOf_run (by kernel_rfl)) (hR.stays hb2) hul (by simp) hu1 us hu2.out ?_
           intro w6 hb6 hbut6 hsz6))
      go_wp2
      refine bodyPost_ret_blk (by rfl) (by rfl) (by rfl) (isAgg_array Tryd.underlying23) (sizeOf_run (by kernel_rfl)) hb6 hul ?_
      exact ⟨by rw [HUS.out], (hbel.trans (hb2.mono hbs)).trans (hbut6.below (Nat.le_refl _) (by have := hb2.size; omega))⟩

set_option maxRecDepth 100000 in
theorem sum_run (a : Option Addr) (c : Nat) (xs : List Int) (w : World) (hB : Bs w a c xs) (hV : Vars w) (hlen : xs.length < 1000000000000000000) :
    Calls Tryd.prog 36 #[.slice a xs.length c] w fun e w' => e = .returned (.agg ((shaOf xs).map (Value.int .u8)).toArray) ∧ Below w.heap.size w w' := by
  obtain ⟨us, hus⟩ : ∃ us, us = (shaOf xs).map (Value.int .u8) := ⟨_, rfl⟩
  have hul : us.length = 32 := by rw [hus, List.length_map, shaOf_length]
  have hu1 : ∀ v ∈ us, v.oneCell' = true := hus ▸ int_oneCell _ _
  have hu2 : Hid (us = ((List.replicate 32 (0 : Int)).map (Value.int .u8)).take 0 ++ us ++ ((List.replicate 32 (0 : Int)).map (Value.int .u8)).drop (0 + 32)) := by
    unfold Hid; rw [List.take_zero, List.nil_append, List.drop_eq_nil_of_le (by simp), List.append_nil]
  have hall : ∀ (o1 o2 : Obj), o2 = .cells #[.slice a xs.length c] 27 → Calls Tryd.prog 63 #[.slice (some ⟨w.heap.size + 1, 0, none⟩) 1 1] ((w.alloc o1).alloc o2) fun e w' => e = .returned (.agg us.toArray) ∧ Below ((w.alloc o1).alloc o2).heap.size ((w.alloc o1).alloc o2) w' := fun o1 o2 ho => by
    have hb : Below w.heap.size w ((w.alloc o1).alloc o2) := ((Below.refl _ _).alloc (Nat.le_refl _) _).alloc (by simp) _
    have h := all_run (some ⟨w.heap.size + 1, 0, none⟩) 1 [⟨a, c, xs⟩] ((w.alloc o1).alloc o2) ⟨.inr ⟨_, 0, rfl, fun i p hp => ?_⟩, fun p hp => ?_⟩ (hV.stays hb) (by simpa [joined] using hlen) (by simp)
    · rw [hus]; simpa [joined] using h
    · obtain ⟨rfl, rfl⟩ : i = 0 ∧ p = ⟨a, c, xs⟩ := by
        rcases i with _ | i
        · simpa [eq_comm] using hp
        · simp at hp
      subst ho
      simp
    · obtain rfl := List.mem_singleton.1 hp
      exact hB.stays hb
  have HUS : Hid (us = (shaOf xs).map (Value.int .u8)) := hus
  clear hus
  go_enter Tryd.func36, Tryd.ntmps36
  go_wp2_with (first
    | (go_at_call 63; go_must (refine (hall _ _ rfl).mono ?_); rintro e w2 ⟨rfl, hb2⟩)
    | (refine wpList_store_blk (by rfl) (.tmp 2) (.tmp 5) 23 (by rfl) w.heap.size 0 32 (by rfl) us (by rfl) (sizeOf_run (by kernel_rfl)) (e := 23) (vs := (List.replicate 32 (0 : Int)).map (Value.int .u8)) (((Blk.newAt rfl (by rfl)).alloc _).stays hb2) hul (by simp) hu1 us hu2.out ?_
       intro w6 hb6 hbut6 hsz6))
  go_wp2
  refine bodyPost_ret_blk (by rfl) (by rfl) (by rfl) (isAgg_array Tryd.underlying23) (sizeOf_run (by kernel_rfl)) hb6 hul ?_
  refine ⟨by rw [HUS.out], ?_⟩
  have hs := hb2.size
  simp at hs
  exact ((((Below.refl _ _).alloc (Nat.le_refl _) _).alloc (by simp) _).trans (hb2.mono (by simp; omega))).trans (hbut6.below (Nat.le_refl _) (by omega))
end Go.Proofs.YteocmmmnfbabaaaDoor
