/-
  Package space: Load.
-/
import Derived.Test.YtfmfjaokpnadaaaSpKeep
import Derived.Test.YtfmfjaokpnadaaaSpPure3
namespace Go.Proofs.Ytfmfjaokpnadaaa
set_option linter.unusedSimpArgs false
set_option linter.unusedVariables false
open Go.RowKit

theorem load_bad (n : Int) (hn : ¬ (16 ≤ n ∧ n ≤ 512)) (v : Value) (w : World) : Calls Try.prog 26 #[v, .int .i64 n] w fun e w' => e = .returned (.tuple #[.pointer none, .int .i64 1]) ∧ w' = w := by
  have hd : decide (16 ≤ n ∧ n ≤ 512) = false := decide_eq_false hn
  have HM : Hid (∀ u, Calls Try.prog 28 #[.int .i64 n] u fun e w' => e = .returned (.bool false) ∧ w' = u) := fun u => by rw [← hd]; exact may_run n u
  clear hd hn
  go_enter Try.func26, Try.ntmps26
  go_wp2_with (go_at_call 28; refine (HM.out _).mono ?_; rintro e w' ⟨rfl, rfl⟩)
  go_ret2
  exact ⟨rfl, rfl⟩

theorem load_len (n : Nat) (h1 : 16 ≤ n) (h2 : n ≤ 512) (a : Option Addr) (m c : Nat) (hm : m ≠ 64) (w : World) : Calls Try.prog 26 #[.slice a m c, .int .i64 (n : Int)] w fun e w' => e = .returned (.tuple #[.pointer none, .int .i64 3]) ∧ w' = w := by
  have hd : decide (16 ≤ (n : Int) ∧ (n : Int) ≤ 512) = true := decide_eq_true (by omega)
  have HM : Hid (∀ u, Calls Try.prog 28 #[.int .i64 (n : Int)] u fun e w' => e = .returned (.bool true) ∧ w' = u) := fun u => by rw [← hd]; exact may_run n u
  have hne : ((m : Int) == 64) = false := beq_false_of_ne (by omega)
  have hne' : (m == 64) = false := beq_false_of_ne hm
  clear hd hm
  go_enter Try.func26, Try.ntmps26
  go_wp2_with (go_at_call 28; refine (HM.out _).mono ?_; rintro e w' ⟨rfl, rfl⟩)
  go_ret2
  exact ⟨rfl, rfl⟩

theorem bit_and (x : Nat) (hx : x < 256) (k : Nat) : bits .and .u8 ((x : Int) / 2 ^ (k % 8)) 1 = if x.testBit (k % 8) = true then 1 else 0 := by
  have h := u8_and_nat (x / 2 ^ (k % 8)) 1 (Nat.lt_of_le_of_lt (Nat.div_le_self _ _) hx) (by decide)
  rw [Int.natCast_ediv, Int.natCast_pow, show ((2 : Nat) : Int) = 2 from rfl, show ((1 : Nat) : Int) = 1 from rfl] at h
  rw [h, Nat.and_one_is_mod, Nat.testBit_eq_decide_div_mod_eq]
  generalize x / 2 ^ (k % 8) = y
  by_cases hy : y % 2 = 1
  · rw [hy]; rfl
  · rw [show y % 2 = 0 by omega]; rfl

set_option maxRecDepth 100000 in
set_option maxHeartbeats 2000000 in
theorem load_walk (n : Nat) (h1 : 16 ≤ n) (h2 : n ≤ 512) (a : Option Addr) (c : Nat) (xs : List Int) (w : World) (hB : Bs w a c xs) (hl : xs.length = 64) :
    Calls Try.prog 26 #[.slice a 64 c, .int .i64 (n : Int)] w fun e w' =>
      (okX xs n ∧ e = .returned (.tuple #[.pointer (some ⟨w.heap.size, 0, none⟩), .int .i64 0]) ∧ Mp w' w.heap.size (mapX xs n) ∧ Below w.heap.size w w') ∨
      (¬ okX xs n ∧ e = .returned (.tuple #[.pointer none, .int .i64 3]) ∧ Below w.heap.size w w') := by
  have hd : decide (16 ≤ (n : Int) ∧ (n : Int) ≤ 512) = true := decide_eq_true (by omega)
  have HM : Hid (∀ u, Calls Try.prog 28 #[.int .i64 (n : Int)] u fun e w' => e = .returned (.bool true) ∧ w' = u) := fun u => by rw [← hd]; exact may_run n u
  clear hd
  obtain ⟨zs, hzs⟩ : ∃ zs, zs = Value.int .i64 (n : Int) :: List.replicate 8 (Value.int .u64 0) := ⟨_, rfl⟩
  have HBD : Hid (∀ u, (Instr.build 64 #[(0, .int .i64 (n : Int))]).run Try.prog u = .ok (.agg zs.toArray) u) := fun u => by rw [hzs]; exact build_map n u
  have HZ : Hid (zs = mapV (ldL xs n 0)) := by show _ = _; rw [hzs, ldL_0, mapV_none]
  clear hzs
  obtain ⟨b, off, ha, hc⟩ := hB.cell (by omega)
  have HCE : Hid (∀ k u, k < 64 → Below w.heap.size w u → ∃ x : Nat, u.cell? ⟨b, off + k, none⟩ = some (.int .u8 (x : Int)) ∧ x < 256 ∧ xs.getD k 0 = (x : Int)) := fun k u hk hu => by
    have h3 := hc k (by omega)
    have h4 := hB.rng (xs.getD k 0) (by simp [List.getD, show k < xs.length by omega])
    refine ⟨(xs.getD k 0).toNat, ?_, by omega, by omega⟩
    rw [hu.cell (World.block_lt_of_cell? w _ h3), h3]
    congr 2
    omega
  have hix : ∀ (k : Nat), k < 64 → ∀ u : World, (Instr.indexAt 37 (.slice a 64 c) (.int .i64 (k : Int))).run Try.prog u = .ok (.pointer (some ⟨b, off + k, none⟩)) u := fun k hk u => by
    rw [ha]; exact index_run 37 5 Try.underlying37 sizes5 elem5 b off 64 c .i64 k hk u
  have HIX : Hid _ := hix
  have HXL : Hid (xs.length = 64) := hl
  clear hB hl hc ha hix
  go_enter Try.func26, Try.ntmps26
  go_wp2_with (first
    | (go_at_call 28; refine (HM.out _).mono ?_; rintro e w ⟨rfl, rfl⟩)
    | (refine wpList_build (by rfl) 64 [(0, .tmp 15)] (by rfl) [(0, .int .i64 (n : Int))] (by rfl) _ HBD.out ?_)
    | (refine wpList_box0 (by rfl) 64 (.tmp 16) (by rfl) zs (by rfl) ?_; intro w1 hP1 hb1 hs1))
  have hM1 : Mp w1 w.heap.size (ldL xs n 0) := ⟨by rw [← HZ.out]; exact hP1, by rw [ldL_len]; exact h1, by rw [ldL_len]; exact h2⟩
  clear hP1 hs1
  go_loopw [7, 8, 18] (fun _ _ i wr => ∃ k : Nat, k ≤ 512 ∧ i = .int .i64 k ∧ Mp wr w.heap.size (ldL xs n k) ∧ (∀ j, j < k → bad xs n j = false) ∧ Below w.heap.size w wr) (fun _ _ i _ => 512 - (intOf i).toNat)
  case atStart => exact ⟨0, by omega, rfl, hM1, fun j hj => by omega, hb1⟩
  case round =>
    rename_i hrel
    obtain ⟨k, hk, rfl, hP, hgood, hbr⟩ := hrel
    clear hM1 hb1
    by_cases hlt : k < 512
    · obtain ⟨x, hcx, hxl, hxe⟩ := HCE.out (k / 8) wr (by omega) hbr
      have hix := HIX.out (k / 8) (by omega)
      rw [show (((k / 8 : Nat)) : Int) = (k : Int) / 8 by omega] at hix
      have hbx := bit_and x hxl k
      have hbe : bitX xs k = x.testBit (k % 8) := by unfold bitX; rw [hxe]; rfl
      rw [← hbe] at hbx
      clear hbe hxe
      have HLB : Hid (∀ u, Calls Try.prog 31 #[.int .i64 (k : Int)] u fun e w' => e = .returned (.bool (decide ((k : Int) < 4))) ∧ w' = u) := fun u => isLabel_run k u
      by_cases hone : bitX xs k = true
      · rw [hone, if_pos rfl] at hbx
        by_cases hin : k < n
        · have HU : Hid (Calls Try.prog 29 #[.pointer (some ⟨w.heap.size, 0, none⟩), .int .i64 (k : Int)] wr fun e w' => e = .returned (.tuple #[]) ∧ Mp w' w.heap.size (ldL xs n (k + 1)) ∧ But w.heap.size wr w') := by
            have := use_run k wr hP (by rw [ldL_len]; exact hin)
            rw [ldL_one xs n k hin hone] at this
            exact this.mono fun e w' ⟨h1, h2, h3, _⟩ => ⟨h1, h2, h3⟩
          have hgk : bad xs n k = false := by unfold bad; rw [hone]; simp; omega
          have HGN : Hid (∀ j, j < k + 1 → bad xs n j = false) := fun j hj => by
            rcases Nat.lt_or_ge j k with h | h
            · exact hgood j h
            · rw [show j = k by omega]; exact hgk
          clear hone hgood hgk
          have hsz := hbr.size
          have hng : ¬ n ≤ k := by omega
          go_wp2_with (first
            | (go_at_call 29; refine HU.out.mono ?_; rintro e w2 ⟨rfl, hP2, hb2⟩))
          go_roundw
          case rel => exact ⟨k + 1, by omega, by go_num, hP2, HGN.out, hbr.trans (hb2.below (Nat.le_refl _) hsz)⟩
          case measure => simp [intOf]; omega
        · have hgk : ¬ okX xs n := fun h => by have := h k hlt; unfold bad at this; rw [hone] at this; simp at this; omega
          have HK : Hid (¬ okX xs n) := hgk
          have hng : n ≤ k := by omega
          clear hgk hone hgood
          go_wp2
          go_ret2
          exact .inr ⟨HK.out, rfl, hbr⟩
      · have hone' : bitX xs k = false := by cases h : bitX xs k; rfl; exact absurd h hone
        rw [hone', if_neg (by simp)] at hbx
        by_cases h4 : k < 4
        · have hgk : ¬ okX xs n := fun h => by have := h k hlt; unfold bad at this; rw [hone'] at this; simp [h4] at this
          have HK : Hid (¬ okX xs n) := hgk
          have hd4 : decide ((k : Int) < 4) = true := decide_eq_true (by omega)
          rw [hd4] at HLB
          clear hgk hone hone' hgood hd4
          go_wp2_with (go_at_call 31; refine (HLB.out _).mono ?_; rintro e w2 ⟨rfl, rfl⟩)
          go_ret2
          exact .inr ⟨HK.out, rfl, hbr⟩
        · have hd4 : decide ((k : Int) < 4) = false := decide_eq_false (by omega)
          rw [hd4] at HLB
          have hgk : bad xs n k = false := by unfold bad; rw [hone']; simp; omega
          have HGN : Hid (∀ j, j < k + 1 → bad xs n j = false) := fun j hj => by
            rcases Nat.lt_or_ge j k with h | h
            · exact hgood j h
            · rw [show j = k by omega]; exact hgk
          have hP2 : Mp wr w.heap.size (ldL xs n (k + 1)) := by rw [← ldL_zero xs n k (.inl hone')]; exact hP
          clear hone hone' hgood hgk hP hd4
          go_wp2_with (go_at_call 31; refine (HLB.out _).mono ?_; rintro e w2 ⟨rfl, rfl⟩)
          go_roundw
          case rel => exact ⟨k + 1, by omega, by go_num, hP2, HGN.out, hbr⟩
          case measure => simp [intOf]; omega
    · have hk512 : k = 512 := by omega
      subst hk512
      have HK : Hid (okX xs n) := hgood
      clear hgood
      go_wp2
      go_ret2
      exact .inl ⟨HK.out, rfl, hP, hbr⟩

/-- What Load tells of bytes. -/
theorem load_run (n : Nat) (h1 : 16 ≤ n) (h2 : n ≤ 512) (a : Option Addr) (c : Nat) (xs : List Int) (w : World) (hB : Bs w a c xs) :
    Calls Try.prog 26 #[.slice a xs.length c, .int .i64 (n : Int)] w fun e w' =>
      (xs.length = 64 ∧ okX xs n ∧ e = .returned (.tuple #[.pointer (some ⟨w.heap.size, 0, none⟩), .int .i64 0]) ∧ Mp w' w.heap.size (mapX xs n) ∧ Below w.heap.size w w') ∨
      (¬ (xs.length = 64 ∧ okX xs n) ∧ e = .returned (.tuple #[.pointer none, .int .i64 3]) ∧ Below w.heap.size w w') := by
  by_cases hl : xs.length = 64
  · rw [hl]
    refine (load_walk n h1 h2 a c xs w hB hl).mono ?_
    rintro e w' (⟨h3, h4, h5, h6⟩ | ⟨h3, h4, h5⟩)
    · exact .inl ⟨rfl, h3, h4, h5, h6⟩
    · exact .inr ⟨fun h => h3 h.2, h4, h5⟩
  · refine (load_len n h1 h2 a xs.length c hl w).mono ?_
    rintro e w' ⟨h3, rfl⟩
    exact .inr ⟨fun h => hl h.1, h3, Below.refl _ _⟩
end Go.Proofs.Ytfmfjaokpnadaaa
