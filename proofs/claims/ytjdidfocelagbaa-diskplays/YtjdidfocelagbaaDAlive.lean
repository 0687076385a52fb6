/-
  The live question of package disk's laws.
-/
import Derived.Test.YtjdidfocelagbaaRest
namespace Go.Proofs.Ytjdidfocelagbaa
set_option linter.unusedSimpArgs false
set_option linter.unusedVariables false
open Go.RowKit

theorem owns_cell {w : World} {base g n cap : Nat} {e : TypeId} {xs : List Int} (h : w.ownsRow base e 1 (.slice (some ⟨g, 0, none⟩) n cap) n (xs.map (Value.int .u8))) {k : Nat} (hk : k < n) : w.cell? ⟨g, k, none⟩ = some (.int .u8 (xs.getD k 0)) := by
  have hl : xs.length = n := by have := h.1; simpa using this
  rw [h.cellAt k (by omega)]
  simp [List.getD, show k < xs.length by omega]

theorem readOf_one (laid : List Int) (f : Buf) : readOf laid [f] f.at' = f.xs := by simp [readOf]
theorem readOf_nil (laid : List Int) (s : Nat) : readOf laid [] s = secOf laid s := by simp [readOf]
theorem laidTo_none (laid : List Int) (bufs : List Buf) (keep : Nat → Int) : laidTo laid bufs keep 0 = laid := rfl

set_option maxRecDepth 100000 in
set_option maxHeartbeats 4000000 in
theorem alive_run (w : World) : Calls Try.prog 6 #[] w fun e w' => e = .returned (.bool true) ∧ Below w.heap.size w w' := by
  have hi : (Try.prog.info? 5).map (fun i => (i.zero, i.size, i.bytes)) = some (some (.int .u8 0), 1, 1) := by kernel_rfl
  obtain ⟨i0, hi0, hz0, hz1, hz2⟩ := info_parts hi
  have hnew := new_run 16 w (by omega) (by omega)
  obtain ⟨Z, hZ⟩ : ∃ Z : List Int, Z = List.replicate (256 * 16) 0 := ⟨_, rfl⟩
  have hZl : Z.length = 4096 := by rw [hZ, List.length_replicate]
  have hZ5 : (secOf Z 3).getD 5 0 = 0 := by rw [hZ]; decide +kernel
  obtain ⟨Y, hY⟩ : ∃ Y : List Int, Y = (List.replicate 256 0).set 5 9 := ⟨_, rfl⟩
  have hYl : Y.length = 256 := by rw [hY]; simp
  have hY5 : Y.getD 5 0 = 9 := by rw [hY]; decide +kernel
  have hYr : ∀ x ∈ Y, 0 ≤ x ∧ x ≤ 255 := by rw [hY]; decide +kernel
  have HY : Hid (Y = (List.replicate 256 0).set 5 9) := hY
  rw [← hZ] at hnew
  obtain ⟨O, hO⟩ : ∃ O : List Int, O = List.replicate 256 0 := ⟨_, rfl⟩
  rw [← hO] at hY
  have hOl : O.length = 256 := by rw [hO]; simp
  have HO : Hid (O = List.replicate 256 0) := hO
  have HYO : Hid (Y = O.set 5 9) := hY
  clear hZ hY hO
  go_enter Try.func6, Try.ntmps6
  go_wp2_with (first
    | (go_at_call 4; refine hnew.mono ?_; clear hnew; rintro e w1 ⟨p, rfl, bl, hD1, hp, hbl, hb1⟩)
    | (refine wpList_make_bytes (w0 := w1) (by rfl) (.const (.int .i64 256)) (.const (.int .i64 256)) 35 (by rfl) w1.heap.size 5 i0 Try.underlying35 hi0 hz0 hz1 hz2 .i64 .i64 256 256 256 (by rfl) (by rfl) (by omega) (by omega) (by omega) (Nat.le_refl _) (Below.refl _ _) ?_; intro w2 hrow2 hb2
       rw [← HO.out] at hrow2
       have hc2 : w2.cell? ⟨w1.heap.size, 5, none⟩ = some (.int .u8 (O.getD 5 0)) := hrow2.cell 5 (by omega)
       have hf2 := hrow2.free 5
       have hrow3 := hrow2.set 5 9
       rw [← HYO.out] at hrow3
       have hb3 := hb2.setCell (p := ⟨w1.heap.size, 5, none⟩) (Nat.le_refl _) (.int .u8 9)
       have hD3 := hD1.stays hb3
       have hB3 := hrow3.bs hYr (by rw [hYl]; decide)
       rw [hYl] at hB3
       have hpl := hD1.blk.lt
       have hbll := hD1.row.lt
       have hwr := write_done 3 ⟨w1.heap.size, 0, none⟩ 256 Y _ hD3 rfl (by omega) hB3 hYl (by simp; omega) (by simp))
    | (go_at_call 13; refine hwr.mono ?_; clear hwr; rintro e w4 ⟨rfl, v4, f, hD4, hfa, hfx, hfb, hv4, hF4⟩
       have hread1 := read_done 3 w4 hD4 (by simp) (by omega)
       rw [List.nil_append, ← hfa, readOf_one, hfx, hfa] at hread1)
    | (go_at_call 14; refine hread1.mono ?_; clear hread1; rintro e w5 ⟨g5, cap5, rfl, hown5, hb5⟩
       have hx5 := owns_cell hown5 (k := 5) (by omega)
       rw [hY5] at hx5
       have hcr := crash_run w5 none 0 [] (hD4.stays hb5) (by simp) (.inl rfl) (by simp) (fun h => absurd rfl h))
    | (go_at_call 15; refine hcr.mono ?_; clear hcr; rintro e w6 ⟨⟨_, rfl⟩, hD6, hF6⟩
       rw [List.length_nil, Nat.min_zero, laidTo_none] at hD6
       have hg5 := (hown5.lt g5 rfl).1
       have hp4 := hD4.blk.lt
       have hb4 := hD4.row.lt
       have hx6 : w6.cell? ⟨g5, 5, none⟩ = some (.int .u8 9) := (World.cell?_of_block (hF6.block g5 (by rintro (h | h) <;> omega) (World.block_lt_of_cell? _ _ hx5))).trans hx5
       have hread2 := read_done 3 w6 hD6 (by simp) (by omega)
       rw [readOf_nil] at hread2)
    | (go_at_call 14; refine hread2.mono ?_; clear hread2; rintro e w7 ⟨g7, cap7, rfl, hown7, hb7⟩
       have hy7 := owns_cell hown7 (k := 5) (by omega)
       rw [hZ5] at hy7
       have hx7 : w7.cell? ⟨g5, 5, none⟩ = some (.int .u8 9) := (hb7.cell (World.block_lt_of_cell? _ _ hx6)).trans hx6
       have hnew3 := new_arg 3 w7 (.inl (by omega)))
    | (go_at_call 4; refine hnew3.mono ?_; rintro e w8 ⟨rfl, rfl⟩))
  go_ret
  refine ⟨rfl, ?_⟩
  have hs3 := hb3.size
  have hbA : Below w.heap.size w (w2.setCell ⟨w1.heap.size, 5, none⟩ (.int .u8 9)) := hb1.trans (hb3.mono hb1.size)
  have hbB : Below w.heap.size w w4 := hbA.trans (hF4.below hbA.size (by rintro k (h | h) <;> first | omega | (simp [Value.ownBlock] at h)))
  have hbC : Below w.heap.size w w5 := hbB.trans (hb5.mono hbB.size)
  have hbD : Below w.heap.size w w6 := hbC.trans (hF6.below hbC.size (by rintro k (h | h) <;> omega))
  exact hbD.trans (hb7.mono hbD.size)

end Go.Proofs.Ytjdidfocelagbaa
