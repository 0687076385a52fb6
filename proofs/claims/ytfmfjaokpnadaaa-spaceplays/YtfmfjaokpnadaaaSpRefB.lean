/-
  The document's Bytes.
-/
import Derived.Test.YtfmfjaokpnadaaaSpRef
namespace Go.Proofs.Ytfmfjaokpnadaaa
set_option linter.unusedSimpArgs false
set_option linter.unusedVariables false
open Go.RowKit

theorem getD_take (l : List Bool) (k j : Nat) : (l.take k).getD j false = (decide (j < k) && l.getD j false) := by
  by_cases h : j < k
  · simp [List.getD, List.getElem?_take, h]
  · simp [List.getD, List.getElem?_take, h]

theorem Bt_take_zero (l : List Bool) (k j : Nat) (h : l.getD k false = false) : Bt (l.take (k + 1)) j = Bt (l.take k) j := by
  refine Nat.eq_of_testBit_eq fun i => ?_
  rw [Bt_bit, Bt_bit, getD_take, getD_take]
  by_cases e : 8 * j + i = k
  · rw [e, h]; simp
  · rw [show decide (8 * j + i < k + 1) = decide (8 * j + i < k) from decide_eq_decide.2 (by omega)]

theorem Bt_take_low (l : List Bool) (k : Nat) : Bt (l.take k) (k / 8) < 2 ^ (k % 8) := by
  refine Nat.lt_pow_two_of_testBit _ fun i hi => ?_
  rw [Bt_bit, getD_take]
  simp [show ¬ 8 * (k / 8) + i < k by omega]

theorem Bt_take_one (l : List Bool) (k j : Nat) (h : l.getD k false = true) : Bt (l.take (k + 1)) j = if j = k / 8 then Bt (l.take k) j + 2 ^ (k % 8) else Bt (l.take k) j := by
  by_cases hj : j = k / 8
  · rw [if_pos hj, hj, Nat.add_comm (Bt (l.take k) (k / 8)), ← nat_join (k % 8) (2 ^ (k % 8)) _ (by simp) (Bt_take_low l k)]
    refine Nat.eq_of_testBit_eq fun i => ?_
    rw [Nat.testBit_or, Nat.testBit_two_pow, Bt_bit, Bt_bit, getD_take, getD_take]
    by_cases e : k % 8 = i
    · subst e
      rw [show 8 * (k / 8) + k % 8 = k by omega, h]
      simp [show k % 8 < 8 by omega]
    · simp only [e, decide_false, Bool.false_or]
      rw [show decide (8 * (k / 8) + i < k + 1) = decide (8 * (k / 8) + i < k) from decide_eq_decide.2 (by omega)]
  · rw [if_neg hj]
    refine Nat.eq_of_testBit_eq fun i => ?_
    rw [Bt_bit, Bt_bit, getD_take, getD_take]
    by_cases hi : i < 8
    · rw [show decide (8 * j + i < k + 1) = decide (8 * j + i < k) from decide_eq_decide.2 (by omega)]
    · simp [hi]

theorem bytesL_zero (l : List Bool) (k : Nat) (h : l.getD k false = false) : bytesL (l.take (k + 1)) = bytesL (l.take k) := by
  unfold bytesL
  simp only [Bt_take_zero l k _ h]
theorem bytesL_one (l : List Bool) (k : Nat) (h : l.getD k false = true) (hk : k < 512) : bytesL (l.take (k + 1)) = (bytesL (l.take k)).set (k / 8) ((Bt (l.take k) (k / 8) + 2 ^ (k % 8) : Nat) : Int) := by
  refine List.ext_getElem? fun j => ?_
  rw [List.getElem?_set, bytesL_len]
  by_cases hj : j < 64
  · have e1 : (bytesL (l.take (k + 1)))[j]? = some ((Bt (l.take (k + 1)) j : Nat) : Int) := by simp [bytesL, hj]
    have e2 : (bytesL (l.take k))[j]? = some ((Bt (l.take k) j : Nat) : Int) := by simp [bytesL, hj]
    rw [e1, e2, Bt_take_one l k j h]
    by_cases e : j = k / 8
    · subst e; rw [if_pos rfl, if_pos rfl, if_pos hj]
    · rw [if_neg e, if_neg (fun x => e x.symm)]
  · rw [if_neg (by omega), List.getElem?_eq_none (by rw [bytesL_len]; omega), List.getElem?_eq_none (by rw [bytesL_len]; omega)]
theorem bytesL_none : bytesL [] = List.replicate 64 0 := by decide +kernel

section
variable {g c : Nat} {l : List Bool}

set_option maxRecDepth 100000 in
theorem rbytes_run (w : World) (h : Tr w g c l) (hl : l.length ≤ 512) : Calls Try.prog 23 #[.agg #[.slice (some ⟨g, 0, none⟩) l.length c]] w fun e w' => ∃ a c, e = .returned (.slice a 64 c) ∧ Bs w' a c (bytesL l) ∧ Below w.heap.size w w' := by
  have hi0 : (Try.prog.info? 5).map (fun i => (i.zero, i.size, i.bytes)) = some (some (.int .u8 0), 1, 1) := by kernel_rfl
  obtain ⟨ti, ht0, ht1, ht2, ht3⟩ := info_parts hi0
  obtain ⟨n, hn⟩ : ∃ n, n = l.length := ⟨_, rfl⟩
  have HC : Hid (∀ k, k < n → ∀ u, Below w.heap.size w u → u.cell? ⟨g, k, none⟩ = some (.bool (l.getD k false))) := fun k hk u hu => (h.stays hu).cell k (by omega)
  have HE : Hid (bytesL (l.take n) = bytesL l) := by show _ = _; rw [hn, List.take_length]
  have HI : Hid (bytesL (l.take 0) = List.replicate 64 0) := bytesL_none
  rw [← hn] at hl ⊢
  clear hn h hi0
  go_enter Try.func23, Try.ntmps23
  go_wp2_with (first
    | (refine wpList_box0 (by rfl) 29 (.tmp 0) (by rfl) [.slice (some ⟨g, 0, none⟩) n c] (by rfl) ?_; intro w1 hP1 hb1 hs1)
    | (refine wpList_make_bytes (by rfl) (.const (.int .i64 64)) (.const (.int .i64 64)) 37 (by rfl) w1.heap.size 5 ti Try.underlying37 ht0 ht1 ht2 ht3 .i64 .i64 64 64 64 (by rfl) (by rfl) rfl rfl (by decide) (Nat.le_refl _) (Below.refl _ w1) ?_; intro w2 hR2 hb2))
  have hP2 := hP1.stays hb2
  obtain ⟨B, hB⟩ : ∃ B, B = w.heap.size + 1 := ⟨_, rfl⟩
  have hwB : w.heap.size < B := by omega
  rw [hs1, ← hB] at hR2
  rw [← hB]
  have hX2 : Below w.heap.size w w2 := hb1.trans (hb2.mono (by omega))
  clear hB hb1 hb2 hP1 hs1
  go_loopw [4] (fun i wr => ∃ k : Nat, k ≤ n ∧ i = .int .i64 k ∧ Blk 5 wr B ((bytesL (l.take k)).map (Value.int .u8)) ∧ Blk 29 wr w.heap.size [.slice (some ⟨g, 0, none⟩) n c] ∧ Below w.heap.size w wr) (fun i _ => n - (intOf i).toNat)
  case atStart => exact ⟨0, by omega, rfl, by rw [HI.out]; exact hR2, hP2, hX2⟩
  case round =>
    rename_i hrel
    obtain ⟨k, hk, rfl, hR, hP, hbr⟩ := hrel
    clear hR2 hP2 hX2
    have hc0 := hP.cell 0
    by_cases hlt : k < n
    · have hck := HC.out k hlt wr hbr
      have hix := index_tr g n c k hlt .i64
      cases hb : l.getD k false
      · rw [hb] at hck
        have hR3 : Blk 5 wr B ((bytesL (l.take (k + 1))).map (Value.int .u8)) := by rw [bytesL_zero l k hb]; exact hR
        clear hb hR
        go_wp2
        go_roundw
        case rel => exact ⟨k + 1, by omega, by go_num, hR3, hP, hbr⟩
        case measure => simp [intOf]; omega
      · rw [hb] at hck
        have hlow := Bt_take_low l k
        have hone := bytesL_one l k hb (by omega)
        have hcx : wr.cell? ⟨B, k / 8, none⟩ = some (.int .u8 ((Bt (l.take k) (k / 8) : Nat) : Int)) := by
          rw [hR.cell]; simp [bytesL, show k / 8 < 64 by omega]
        have hcl : k / 8 < ((bytesL (l.take k)).map (Value.int .u8)).length := by rw [List.length_map, bytesL_len]; omega
        obtain ⟨x, hx⟩ : ∃ x, x = Bt (l.take k) (k / 8) := ⟨_, rfl⟩
        rw [← hx] at hlow hone hcx
        clear hx hb
        obtain ⟨cur, hcur⟩ : ∃ cur, cur = bytesL (l.take k) := ⟨_, rfl⟩
        rw [← hcur] at hR hone hcl
        clear hcur
        have HON : Hid (bytesL (l.take (k + 1)) = cur.set (k / 8) ((x + 2 ^ (k % 8) : Nat) : Int)) := hone
        clear hone
        have hix8 : ∀ u : World, (Instr.indexAt 37 (.slice (some ⟨B, 0, none⟩) 64 64) (.int .i64 ((k : Int) / 8))).run Try.prog u = .ok (.pointer (some ⟨B, k / 8, none⟩)) u := fun u => by
          have := index_run 37 5 Try.underlying37 sizes5 elem5 B 0 64 64 .i64 (k / 8) (by omega) u
          rwa [Nat.zero_add, show (((k / 8 : Nat)) : Int) = (k : Int) / 8 by omega] at this
        obtain ⟨p, hp⟩ : ∃ p, p = 2 ^ (k % 8) := ⟨_, rfl⟩
        have hp8 : p ≤ 128 := by rw [hp]; exact Nat.pow_le_pow_right (by decide) (show k % 8 ≤ 7 by omega)
        have hpI : (2 : Int) ^ (k % 8) = (p : Int) := by rw [hp, Int.natCast_pow]; rfl
        rw [← hp] at hlow HON
        clear hp
        go_wp2_with (refine wpList_store_int (by rfl) (.tmp 31) (.tmp 30) 5 (by rfl) B (k / 8) (by rfl) .u8 _ (by rfl) size_u8 hR hcl ?_; intro w5 hR5 hbut5 hs5)
        have hR6 : Blk 5 w5 B ((bytesL (l.take (k + 1))).map (Value.int .u8)) := by
          rw [HON.out, List.map_set]; exact hR5
        have hP6 := hP.but hbut5 (by omega)
        go_roundw
        case rel => exact ⟨k + 1, by omega, by go_num, hR6, hP6, hbr.trans (hbut5.below (Nat.le_of_lt hwB) hbr.size)⟩
        case measure => simp [intOf]; omega
    · have hkn : k = n := by omega
      subst hkn
      rw [HE.out] at hR
      have hB : Bs wr (some ⟨B, 0, none⟩) 64 (bytesL l) := by
        have := Row.bs (e := 5) (w := wr) (g := B) hR (bytesL_rng l) (by rw [bytesL_len]; decide)
        rwa [bytesL_len] at this
      clear hR
      go_wp2
      go_ret
      exact ⟨_, 64, rfl, hB, hbr⟩
end
end Go.Proofs.Ytfmfjaokpnadaaa
