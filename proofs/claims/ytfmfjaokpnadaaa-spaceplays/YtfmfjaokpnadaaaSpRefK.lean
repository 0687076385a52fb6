/-
  The document's Keep.
-/
import Derived.Test.YtfmfjaokpnadaaaSpRefG
namespace Go.Proofs.Ytfmfjaokpnadaaa
set_option linter.unusedSimpArgs false
set_option linter.unusedVariables false
open Go.RowKit

section
variable {g c : Nat} {l : List Bool}

set_option maxRecDepth 100000 in
set_option maxHeartbeats 4000000 in
theorem rkeep_run (n : Nat) (h16 : 16 ≤ n) (h512 : n ≤ 512) (a : Option Addr) (c' : Nat) (ks : List Nat) (w : World) (hk : Us w a ks) (hlen : ks.length ≤ 1000000) :
    Calls Try.prog 17 #[.agg #[.slice (some ⟨g, 0, none⟩) n c], .slice a ks.length c'] w fun e w' => ∃ q cq, e = .returned (.agg #[.slice (some ⟨q, 0, none⟩) n cq]) ∧ Tr w' q cq (keepL n ks) ∧ w.heap.size ≤ q ∧ Below w.heap.size w w' := by
  have hz2 : ∀ a n c, [Value.slice a n c].length = 1 := fun _ _ _ => rfl
  obtain ⟨m, hm⟩ : ∃ m, m = ks.length := ⟨_, rfl⟩
  have HUS : Hid (∀ u, Below w.heap.size w u → Us u a ks) := fun u hu => hk.stays hu
  have HRN : Hid (∀ j, j < m → ks.getD j 0 < 4294967296) := fun j hj => hk.rng _ (by simp [List.getD, show j < ks.length by omega])
  have HM : Hid (m = ks.length) := hm
  rw [← hm] at hlen ⊢
  clear hm hk
  obtain ⟨H, hH⟩ : ∃ H, H = w.heap.size := ⟨_, rfl⟩
  have HH : Hid (H = w.heap.size) := hH
  go_enter Try.func17, Try.ntmps17
  go_wp2_with (first
    | (refine wpList_box0 (by rfl) 29 (.tmp 0) (by rfl) [.slice (some ⟨g, 0, none⟩) n c] (by rfl) ?_; intro w1 hP1 hb1 hs1)
    | (refine wpList_alloc0 (by rfl) 29 (by rfl) (some 4) (by rfl) _ alloc_rmap ?_; intro w2 hR2 hb2 hs2; rw [hs1] at hR2 hs2; have hP2 := hP1.stays hb2; have hc0 := hP2.cell 0)
    | (refine wpList_make_bools (by rfl) (.tmp 10) (.tmp 10) (by rfl) n (by rfl) (by rfl) h512 ?_; intro w3 hT3 hb3; rw [hs2] at hT3 hb3))
  have hR3 := hR2.stays (show Below w2.heap.size w2 w3 by rw [hs2]; exact hb3)
  have hX3 : Below w.heap.size w w3 := (below_then hb1 hb2).trans (hb3.mono (by omega))
  clear hP1 hb1 hs1 hR2 hb2 hP2 hc0 hb3 hs2
  rw [← hH] at hT3 hR3 hX3 ⊢
  clear hH
  go_loopw [6] (fun i wr => ∃ k : Nat, k ≤ 4 ∧ i = .int .i64 k ∧ Tr wr (H + 1 + 1) n (lab n k) ∧ Blk 29 wr (H + 1) [.slice none 0 0] ∧ Below H w wr) (fun i _ => 4 - (intOf i).toNat)
  case atStart => exact ⟨0, by omega, rfl, hT3, hR3, hX3⟩
  case round =>
    rename_i hrel
    obtain ⟨k, hk, rfl, hT, hR, hbr⟩ := hrel
    clear hT3 hR3 hX3
    by_cases hlt : k < 4
    · have hck := hT.cell k (by rw [lab_len]; omega)
      have hfr := hT.free k
      have hix := index_tr (H + 1 + 1) n n k (by omega) .i64
      have hT3 := hT.set k (by rw [lab_len]; omega) true
      rw [lab_next n k (by omega)] at hT3
      have HT3 : Hid _ := hT3
      have HR3 : Hid (Blk 29 (wr.setCell ⟨H + 1 + 1, k, none⟩ (.bool true)) (H + 1) [.slice none 0 0]) := hR.but ((But.refl _ wr).setCell k (.bool true)) (by omega)
      have HB3 : Hid (Below H w (wr.setCell ⟨H + 1 + 1, k, none⟩ (.bool true))) := hbr.setCell (by simp; omega) _
      have hkn : (k : Int) < (n : Int) := by omega
      clear hT hR hbr hT3
      go_wp2
      go_roundw
      case rel => exact ⟨k + 1, by omega, by go_num, HT3.out, HR3.out, HB3.out⟩
      case measure => simp [intOf]; omega
    · have hk4 : k = 4 := by omega
      subst hk4
      have hT0 : Tr wr (H + 1 + 1) n (addL (lab n 4) (ks.take 0)) := hT
      clear hT
      go_wp2
      go_loopw [7] (fun i wr => ∃ j : Nat, j ≤ m ∧ i = .int .i64 j ∧ Tr wr (H + 1 + 1) n (addL (lab n 4) (ks.take j)) ∧ Blk 29 wr (H + 1) [.slice none 0 0] ∧ Below H w wr) (fun i _ => m - (intOf i).toNat)
      case atStart => exact ⟨0, by omega, rfl, hT0, hR, hbr⟩
      case round =>
        rename_i hrel
        clear hT0 hR hbr
        obtain ⟨j, hj, rfl, hT, hR, hbr⟩ := hrel
        by_cases hlt' : j < m
        · obtain ⟨b, off, ha, hc⟩ : ∃ b off, a = some ⟨b, off, none⟩ ∧ wr.cell? ⟨b, off + j, none⟩ = some (.int .u32 ((ks.getD j 0 : Nat) : Int)) := by
            have hm := HM.out
            rcases (HUS.out wr (by rw [← HH.out]; exact hbr)).lay with h0 | ⟨b, off, h1, h2⟩
            · rw [h0] at hm; simp at hm; omega
            · exact ⟨b, off, h1, h2 j (by omega)⟩
          have hix : ∀ u : World, (Instr.indexAt 33 (.slice a m c') (.int .i64 j)).run Try.prog u = .ok (.pointer (some ⟨b, off + j, none⟩)) u := fun u => by
            rw [ha]; exact index_run 33 32 Try.underlying33 sizes32 elem32 b off m c' .i64 j hlt' u
          obtain ⟨q, hq⟩ : ∃ q, q = ks.getD j 0 := ⟨_, rfl⟩
          have hql : q < 4294967296 := by rw [hq]; exact HRN.out j hlt'
          have hnx := addL_next (lab n 4) ks j (by have := HM.out; omega)
          rw [← hq, lab_len] at hnx
          rw [← hq] at hc
          have hl4 : (addL (lab n 4) (ks.take j)).length = n := by rw [addL_len, lab_len]
          clear hq ha
          by_cases hin : q < n
          · have hck := hT.cell q (by omega)
            have hfr := hT.free q
            have hix2 := index_tr (H + 1 + 1) n n q hin .u32
            have hT3 := hT.set q (by omega) true
            rw [if_pos hin] at hnx
            rw [← hnx] at hT3
            have HT3 : Hid _ := hT3
            have HR3 : Hid (Blk 29 (wr.setCell ⟨H + 1 + 1, q, none⟩ (.bool true)) (H + 1) [.slice none 0 0]) := hR.but ((But.refl _ wr).setCell q (.bool true)) (by omega)
            have HB3 : Hid (Below H w (wr.setCell ⟨H + 1 + 1, q, none⟩ (.bool true))) := hbr.setCell (by simp; omega) _
            clear hT hR hbr hT3 hnx hl4
            go_wp2
            go_roundw
            case rel => exact ⟨j + 1, by omega, by go_num, HT3.out, HR3.out, HB3.out⟩
            case measure => simp [intOf]; omega
          · have hng : n ≤ q := by omega
            rw [if_neg hin] at hnx
            rw [← hnx] at hT
            clear hnx hl4
            go_wp2
            go_roundw
            case rel => exact ⟨j + 1, by omega, by go_num, hT, hR, hbr⟩
            case measure => simp [intOf]; omega
        · have hjm : j = m := by omega
          subst hjm
          have hfin : Tr wr (H + 1 + 1) n (keepL n ks) := by
            have := HM.out
            rw [List.take_of_length_le (by omega)] at hT
            exact hT
          have hcr := hR.cell 0
          have hfr := hR.free 0
          clear hT
          go_wp2
          exact bodyPost_ret_blk rfl rfl (by rfl) agg_rmap size_rmap (hR.set 0 _) (hz2 _ _ _) ⟨_, _, rfl, hfin.but ((But.refl (H + 1) _).setCell 0 _) (by omega), by have := HH.out; omega, by rw [← HH.out]; exact hbr.setCell (by simp) _⟩
end
end Go.Proofs.Ytfmfjaokpnadaaa
