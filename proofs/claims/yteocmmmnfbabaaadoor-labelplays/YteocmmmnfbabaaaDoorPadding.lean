/-
  Package sha: the padding.
-/
import Derived.Test.YteocmmmnfbabaaaDoorBlocks
namespace Go.Proofs.YteocmmmnfbabaaaDoor
set_option linter.unusedSimpArgs false
set_option linter.unusedVariables false
open Go.RowKit

def padByte (n k : Nat) : Nat := n * 8 / 2 ^ (8 * k) % 256
def lastBytes (n : Nat) : List Int := (List.range 8).map fun i => ((padByte n (7 - i) : Nat) : Int)
/-- The padding, of whose last bytes k are laid. -/
def padUp (n k : Nat) : List Int := (128 :: List.replicate ((119 - n % 64) % 64) 0) ++ (List.replicate (8 - k) 0 ++ (lastBytes n).drop (8 - k))

theorem padUp_length (n k : Nat) (hk : k ≤ 8) : (padUp n k).length = (119 - n % 64) % 64 + 9 := by simp [padUp, lastBytes]; try omega
theorem padUp_all (n : Nat) : padUp n 8 = padOf n := by simp [padUp, padOf, lastBytes, padByte]
theorem padUp_none (n : Nat) : padUp n 0 = (List.replicate ((119 - n % 64) % 64 + 9) 0).set 0 128 := by
  have h : (lastBytes n).drop 8 = [] := List.drop_eq_nil_of_le (by simp [lastBytes])
  have e : List.replicate ((119 - n % 64) % 64 + 9) (0 : Int) = 0 :: (List.replicate ((119 - n % 64) % 64) 0 ++ List.replicate 8 0) := by
    rw [List.replicate_append_replicate]; rfl
  rw [e]
  simp only [padUp, Nat.sub_zero, h, List.append_nil, List.set_cons_zero, List.cons_append]
theorem padUp_next (n k : Nat) (hk : k < 8) : (padUp n k).set ((119 - n % 64) % 64 + 8 - k) ((padByte n k : Nat) : Int) = padUp n (k + 1) := by
  have h1 : (lastBytes n).drop (8 - (k + 1)) = ((padByte n k : Nat) : Int) :: (lastBytes n).drop (8 - k) := by
    rw [show 8 - k = 8 - (k + 1) + 1 by omega]
    rw [List.drop_eq_getElem_cons (by simp [lastBytes]; omega)]
    congr 1
    simp only [lastBytes, List.getElem_map, List.getElem_range]
    rw [show 7 - (8 - (k + 1)) = k by omega]
  unfold padUp
  rw [h1, show 8 - k = (8 - (k + 1)) + 1 by omega, List.replicate_succ', List.append_assoc, List.set_append_right _ _ (by simp; omega)]
  congr 1
  rw [List.set_append_right _ _ (by simp; omega)]
  congr 1
  rw [show (119 - n % 64) % 64 + 8 - k - (128 :: List.replicate ((119 - n % 64) % 64) (0 : Int)).length - (List.replicate (8 - (k + 1)) (0 : Int)).length = 0 by simp; omega]
  rfl

set_option maxRecDepth 100000 in
set_option maxHeartbeats 2000000 in
theorem padding_run (n : Nat) (hn : n < 1152921504606846976) (w : World) :
    Calls Tryd.prog 77 #[.int .u64 (n : Int)] w fun e w' => e = .returned (.slice (some ⟨w.heap.size, 0, none⟩) (padOf n).length (padOf n).length) ∧ Row 5 w' w.heap.size (padOf n) ∧ Below w.heap.size w w' := by
  obtain ⟨i0, hi, hz0, hz1, hz2⟩ : ∃ i, Tryd.prog.info? 5 = some i ∧ i.zero = some (.int .u8 0) ∧ i.size = 1 ∧ i.bytes = 1 := ⟨_, rfl, rfl, rfl, rfl⟩
  obtain ⟨nz, hnz⟩ : ∃ z, z = (119 - n % 64) % 64 := ⟨_, rfl⟩
  obtain ⟨r, hr⟩ : ∃ z, z = n % 64 := ⟨_, rfl⟩
  have e1 : (n : Int) % 64 = (r : Int) := by omega
  have e2 : ((119 : Int) - (r : Int)) % 64 = (nz : Int) := by omega
  have lr : r < 64 := by omega
  have lz : nz < 64 := by omega
  have hsr := index_run (P := Tryd.prog) 27 5 Tryd.underlying27 (by kernel_rfl) (by kernel_rfl) w.heap.size 0 (nz + 9) (nz + 9) .i64
  have HN : Hid (nz = (119 - n % 64) % 64) := hnz
  have HL : Hid ((padOf n).length = nz + 9) := by unfold Hid; rw [hnz, padOf_length]
  clear hnz hr
  go_enter Tryd.func77, Tryd.ntmps77
  go_wp2_with (at_make; go_must (refine wpList_make_bytes (w0 := w) (by rfl) _ _ 27 (by rfl) w.heap.size 5 i0 Tryd.underlying27 hi hz0 hz1 hz2 _ _ _ _ (nz + 9) (by rfl) (by rfl) (by omega) (by omega) (by omega) (Nat.le_refl _) (Below.refl _ _) ?_); intro w1 hrow1 hb1; obtain ⟨z, hz⟩ : ∃ z, w1.cell? ⟨w.heap.size, 0, none⟩ = some (.int .u8 z) := ⟨_, hrow1.cell 0 (by simp)⟩; have hf1 := hrow1.free 0)
  have hrow2 : Row 5 (w1.setCell ⟨w.heap.size, 0, none⟩ (.int .u8 128)) w.heap.size (padUp n 0) := by
    rw [padUp_none, ← HN.out]
    exact hrow1.set 0 128
  have hb2 : Below w.heap.size w (w1.setCell ⟨w.heap.size, 0, none⟩ (.int .u8 128)) := hb1.setCell (Nat.le_refl _) _
  go_loopw [16] (fun i wr => ∃ k : Nat, k ≤ 8 ∧ i = .int .i64 k ∧ Row 5 wr w.heap.size (padUp n k) ∧ Below w.heap.size w wr) (fun i _ => 8 - (intOf i).toNat)
  case atStart => exact ⟨0, by omega, rfl, hrow2, hb2⟩
  case round =>
    clear hrow1 hrow2 hb1 hb2 hz hf1
    rename_i hrel
    obtain ⟨k, hk, rfl, hrow, hb⟩ := hrel
    by_cases hlt : k < 8
    · obtain ⟨m, hm⟩ : ∃ m, m = nz + 8 - k := ⟨_, rfl⟩
      obtain ⟨x, hx⟩ : ∃ x, x = padByte n k := ⟨_, rfl⟩
      obtain ⟨y, hy⟩ : ∃ x, x = n * 8 / 2 ^ (8 * k) := ⟨_, rfl⟩
      obtain ⟨z, hz⟩ : ∃ z, wr.cell? ⟨w.heap.size, m, none⟩ = some (.int .u8 z) := ⟨_, hrow.cell m (by rw [padUp_length _ _ hk, ← HN.out]; omega)⟩
      have fz := hrow.free m
      have hx1 := hsr m (by omega)
      rw [Nat.zero_add] at hx1
      have e3 : (nz : Int) + 9 - 1 - (k : Int) = (m : Int) := by omega
      have e4 : (n : Int) * 8 / 2 ^ (8 * k) = (y : Int) := by
        rw [hy, Int.natCast_ediv, Int.natCast_mul, Int.natCast_pow]; rfl
      have e5 : (y : Int) % 256 = (x : Int) := by rw [hx, padByte, ← hy]; omega
      have HM : Hid (m = (119 - n % 64) % 64 + 8 - k) := by unfold Hid; rw [← HN.out]; exact hm
      have HX : Hid (x = padByte n k) := hx
      clear hm hx hy hsr
      go_wp2
      go_roundw
      case rel =>
        refine ⟨k + 1, by omega, by go_num, ?_, hb.setCell (Nat.le_refl _) _⟩
        have h1 := hrow.set m (x : Int)
        rw [HM.out, HX.out, padUp_next n k hlt, ← HM.out, ← HX.out] at h1
        exact h1
      case measure => simp [intOf]; omega
    · have h8 : Row 5 wr w.heap.size (padOf n) := by
        have e : k = 8 := by omega
        rw [← padUp_all, ← e]; exact hrow
      go_wp2
      go_ret
      exact ⟨by rw [HL.out]; rfl, h8, hb⟩
end Go.Proofs.YteocmmmnfbabaaaDoor
