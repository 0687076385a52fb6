/-
  The live question of package sha's laws.
-/
import Derived.Test.YtnkblmbpioamnaaDoorAll
import Derived.Test.YtnkblmbpioamnaaDoorText
import Derived.Test.YtnkblmbpioamnaaDoorAbc
namespace Go.Proofs.YtnkblmbpioamnaaDoor
set_option linter.unusedSimpArgs false
set_option linter.unusedVariables false
open Go.RowKit

theorem bytes4_rng (n : Nat) (hn : n < 4294967296) : ∀ x ∈ bytes4 n, 0 ≤ x ∧ x ≤ 255 := by
  intro x hx
  simp only [bytes4, List.mem_cons, List.not_mem_nil, or_false] at hx
  rcases hx with rfl | rfl | rfl | rfl <;> omega

theorem shaOf_rng (xs : List Int) : ∀ x ∈ shaOf xs, 0 ≤ x ∧ x ≤ 255 := by
  intro x hx
  unfold shaOf S8.bytes at hx
  obtain ⟨n, hn, hxn⟩ := List.mem_flatMap.1 hx
  refine bytes4_rng n ?_ x hxn
  have hok := hashed_ok (xs ++ padOf xs.length)
  simp only [S8.list, List.mem_cons, List.not_mem_nil, or_false] at hn
  rcases hn with rfl | rfl | rfl | rfl | rfl | rfl | rfl | rfl
  · exact hok.a
  · exact hok.b
  · exact hok.c
  · exact hok.d
  · exact hok.e
  · exact hok.f
  · exact hok.g
  · exact hok.h

/-- Bytes of a literal: a new row, marked. -/
theorem lit_bytes {P : Program} {t e : TypeId} (ht : P.underlying t = some (.slice e)) (he : P.underlying e = some (.int .u8)) (xs : List Int) (hr : ∀ x ∈ xs, 0 ≤ x ∧ x ≤ 255) (hm : xs.length ≤ maxLen) (n : Nat) (hn : n = xs.length) (cs : Array Value) (hcs : cs = (xs.map (Value.int .u8)).toArray) (w : World) :
    ∃ wz, (convert t t (.slice (some ⟨w.heap.size, 0, none⟩) n n)).run P (w.alloc (.cells cs e)) = .ok (.slice (some ⟨w.heap.size, 0, none⟩) n n) wz ∧ Bs wz (some ⟨w.heap.size, 0, none⟩) n xs ∧ Below w.heap.size w wz := by
  subst hn hcs
  have hb : Blk e (w.alloc (.cells (xs.map (Value.int .u8)).toArray e)) w.heap.size (xs.map (Value.int .u8)) := Blk.newAt rfl rfl
  obtain ⟨u, hu⟩ : ∃ u, u = w.alloc (.cells (xs.map (Value.int .u8)).toArray e) := ⟨_, rfl⟩
  have hbel : Below w.heap.size w u := hu ▸ (Below.refl _ _).alloc (Nat.le_refl _) _
  rw [← hu] at hb ⊢
  have hh : u.heap[w.heap.size]? = some (.cells (xs.map (Value.int .u8)).toArray e (0, 0)) := hb
  have hsh : u.shape? w.heap.size = some (e, xs.length) := by simp [World.shape?, hh]
  refine ⟨u.freeze ⟨w.heap.size, xs.length, none⟩ 1, ?_, ⟨hr, Nat.le_refl _, hm, (fun h => by cases h), .inr ⟨_, 0, rfl, fun i hi => ?_⟩⟩, ?_⟩
  · simp [convert, run_underlying ht, run_underlying he, markStringish, hsh]
  · simp [World.cell?, World.freeze, Array.getElem?_modify, hh, hi, List.getD]
  · refine hbel.trans ⟨rfl, rfl, rfl, by simp [World.freeze], fun k hk => ?_⟩
    simp only [World.freeze, Nat.one_ne_zero, if_false, Array.getElem?_modify]
    rw [if_neg (by omega)]

theorem alive_text : strOfNums (textOf abcHash) = ⟨#[98, 97, 55, 56, 49, 54, 98, 102]⟩ := by decide +kernel

set_option maxRecDepth 100000 in
set_option maxHeartbeats 1000000 in
theorem alive_run (w : World) (hV : Vars w) : Calls Tryd.prog 4 #[] w fun e w' => e = .returned (.bool true) ∧ Below w.heap.size w w' := by
  obtain ⟨wz, hcv, hBz, hbz⟩ := lit_bytes (P := Tryd.prog) Tryd.underlying28 Tryd.underlying5 [97, 98, 99] (by decide) (by decide) 3 rfl #[.int .u8 97, .int .u8 98, .int .u8 99] rfl w
  have hsum := sum_run (some ⟨w.heap.size, 0, none⟩) 3 [97, 98, 99] wz hBz (hV.stays hbz) (by decide)
  rw [abc_hash] at hsum
  have htext := text_run abcHash rfl (by decide)
  rw [alive_text] at htext
  obtain ⟨us, hus⟩ : ∃ us, us = abcHash.map (Value.int .u8) := ⟨_, rfl⟩
  have hul : us.length = 32 := by rw [hus]; rfl
  have hu1 : ∀ v ∈ us, v.oneCell' = true := hus ▸ int_oneCell _ _
  have hu0 : Hid (us = (us.drop 0).take 32) := by unfold Hid; rw [List.drop_zero, List.take_of_length_le (by omega)]
  have hu2 : Hid (us = ((List.replicate 32 (0 : Int)).map (Value.int .u8)).take 0 ++ us ++ ((List.replicate 32 (0 : Int)).map (Value.int .u8)).drop (0 + 32)) := by
    unfold Hid; rw [List.take_zero, List.nil_append, List.drop_eq_nil_of_le (by simp), List.append_nil]
  have hlast : us[31]? = some (.int .u8 173) := by rw [hus]; rfl
  rw [← hus] at hsum htext
  clear hus
  go_enter Tryd.func4, Tryd.ntmps4
  go_wp2_with (first
    | (go_at_call 7; go_must (refine hsum.mono ?_); rintro e w2 ⟨rfl, hb2⟩)
    | (go_at_call 8; go_must (refine (htext _).mono ?_); rintro e w4 ⟨rfl, hb4⟩; have c4 : w4.cell? ⟨w2.heap.size, 31, none⟩ = some (.int .u8 173) := by rw [(hb3.stays hb4).cell]; exact hlast)
    | (refine wpList_store_blk (by rfl) (.tmp 1) (.tmp 4) 24 (by rfl) w2.heap.size 0 32 (by rfl) us (by rfl) (sizeOf_run (by kernel_rfl)) (e := 24) (vs := (List.replicate 32 (0 : Int)).map (Value.int .u8)) (Blk.newAt rfl (by rfl)) hul (by simp) hu1 us hu2.out ?_
       intro w3 hb3 hbut3 hsz3)
    | (refine wpList_load_blk (by rfl) (.tmp 1) 24 (by rfl) w2.heap.size 0 32 (by rfl) (isAgg_array Tryd.underlying24) (sizeOf_run (by kernel_rfl)) hb3 us hu0.out hul ?_))
  go_ret
  have hs2 := hb2.size
  have hsz := hbz.size
  refine ⟨rfl, ((hbz.trans (hb2.mono hsz)).alloc (by omega) _).trans ((hbut3.below (by omega) (by simp; omega)).trans (hb4.mono ?_))⟩
  rw [hsz3]
  simp
  omega
end Go.Proofs.YtnkblmbpioamnaaDoor
