/-
  The walk of the law DiskFuse.
-/
import Derived.Test.YtjcckocjinkcmaaWNil
import Derived.Laws.Closers25b
namespace Go.Proofs.Ytjcckocjinkcmaa
set_option linter.unusedSimpArgs false
set_option linter.unusedVariables false
open Go.RowKit

/-- The disk behind j writes, with a fuse of F. -/
def Fused (B p bl : Nat) (Z : List Int) (F j : Nat) (w : World) : Prop :=
  ∃ v bufs, DkAt w p bl v bufs Z (decide (F < j)) true (F - j) ∧ bufs.length = min j F ∧ ∀ k, v.ownBlock = some k → B ≤ k

/-- One write more. -/
theorem fuse_write (B p bl : Nat) (Z : List Int) (F j : Nat) (g c : Nat) (xs : List Int) (w : World) (hZ : Z.length = 131072) (hj : j < 32) (h : Fused B p bl Z F j w) (hB : Bs w (some ⟨g, 0, none⟩) c xs) (hx : xs.length = 256) (hg : g ≠ p) (hp : B ≤ p) (hBw : B ≤ w.heap.size) :
    Calls Try.prog 15 #[.pointer (some ⟨p, 0, none⟩), .int .i64 (j : Int), .slice (some ⟨g, 0, none⟩) 256 c] w fun e w' =>
      e = .returned (.int .i64 (if j < F then 0 else 8)) ∧ Fused B p bl Z F (j + 1) w' ∧ Below B w w' := by
  obtain ⟨v, bufs, hD, hl, hv⟩ := h
  rcases (by omega : F < j ∨ j = F ∨ j < F) with hc | hc | hc
  · rw [decide_eq_true hc] at hD
    refine (write_off (j : Int) _ w hD).mono ?_
    rintro e w' ⟨rfl, rfl⟩
    refine ⟨by rw [if_neg (by omega)], ⟨v, bufs, ?_, by omega, hv⟩, Below.refl _ _⟩
    rw [decide_eq_true (by omega), show F - (j + 1) = F - j by omega]
    exact hD
  · subst hc
    rw [decide_eq_false (by omega), Nat.sub_self] at hD
    refine (write_blown (j : Int) _ c w hD (by omega)).mono ?_
    rintro e w' ⟨rfl, hD', hb⟩
    refine ⟨by rw [if_neg (by omega)], ⟨v, bufs, ?_, by omega, hv⟩, hb.below hp hBw⟩
    rw [decide_eq_true (by omega), show j - (j + 1) = 0 by omega]
    exact hD'
  · rw [decide_eq_false (by omega)] at hD
    have hm : may true (F - j) = true := by unfold may; simp; omega
    refine (write_done j ⟨g, 0, none⟩ c xs w hD hm (by omega) hB hx hg (by omega)).mono ?_
    rintro e w' ⟨rfl, v', f, hD', hfa, hfx, hfb, hv', hF⟩
    refine ⟨by rw [if_pos hc], ⟨v', bufs ++ [f], ?_, by simp; omega, fun k hk => ?_⟩, hF.below hBw ?_⟩
    · rw [decide_eq_false (by omega), show F - (j + 1) = F - j - 1 by omega]
      exact hD'
    · rcases hv' k hk with h | h
      · exact hv k h
      · omega
    · rintro k (rfl | h)
      · exact hp
      · exact hv k h

theorem mk_zeros_rng (n : Nat) : ∀ x ∈ List.replicate n (0 : Int), 0 ≤ x ∧ x ≤ 255 := by
  intro x hx
  obtain ⟨_, rfl⟩ := List.mem_replicate.1 hx
  omega

/-- The reading of sector 0 behind the writes. -/
theorem fuse_read (B p bl : Nat) (Z : List Int) (F j : Nat) (w : World) (hZ : Z.length = 131072) (hj : j < 33) (h : Fused B p bl Z F j w) :
    Calls Try.prog 19 #[.pointer (some ⟨p, 0, none⟩), .int .i64 0] w fun e w' =>
      ∃ x, e = .returned (.tuple #[x, .int .i64 (if F < j then 8 else 0)]) ∧ Fused B p bl Z F j w' ∧ Below w.heap.size w w' := by
  obtain ⟨v, bufs, hD, hl, hv⟩ := h
  by_cases hc : F < j
  · have hD0 := hD
    rw [decide_eq_true hc] at hD0
    refine (read_off 0 w hD0).mono ?_
    rintro e w' ⟨rfl, hb⟩
    exact ⟨_, by rw [if_pos hc], ⟨v, bufs, hD.stays hb, hl, hv⟩, hb⟩
  · have hD0 := hD
    rw [decide_eq_false hc] at hD0
    refine (read_done 0 w hD0 (by omega) (by omega)).mono ?_
    rintro e w' ⟨g, cap, rfl, hown, hb⟩
    exact ⟨_, by rw [if_neg hc], ⟨v, bufs, hD.stays hb, hl, hv⟩, hb⟩

theorem fuse_waits (B p bl : Nat) (Z : List Int) (F j : Nat) (w : World) (h : Fused B p bl Z F j w) :
    Calls Try.prog 21 #[.pointer (some ⟨p, 0, none⟩)] w fun e w' => e = .returned (.int .i64 ((min j F : Nat) : Int)) ∧ w' = w := by
  obtain ⟨v, bufs, hD, hl, hv⟩ := h
  rw [← hl]
  exact waits_run w hD

theorem fuse_crash (B p bl : Nat) (Z : List Int) (F j : Nat) (w : World) (hj : j < 33) (h : Fused B p bl Z F j w) (hp : B ≤ p) (hbl : B ≤ bl) (hBw : B ≤ w.heap.size) :
    Calls Try.prog 18 #[.pointer (some ⟨p, 0, none⟩), .slice none 0 0] w fun e w' => (∃ v, e = .returned v) ∧ DkAt w' p bl (.slice none 0 0) [] Z false false 0 ∧ Below B w w' := by
  obtain ⟨v, bufs, hD, hl, hv⟩ := h
  refine (crash_run w none 0 [] hD (by omega) (.inl rfl) (by simp) (fun h => absurd rfl h)).mono ?_
  rintro e w' ⟨he, hD', hF⟩
  rw [List.length_nil, Nat.min_zero, laidTo_none] at hD'
  exact ⟨he, hD', hF.below hBw (by rintro k (h | h) <;> omega)⟩

theorem Fused.stays {B p bl : Nat} {Z : List Int} {F j : Nat} {w w' : World} (h : Fused B p bl Z F j w) (hb : Below w.heap.size w w') : Fused B p bl Z F j w' := by
  obtain ⟨v, bufs, hD, hl, hv⟩ := h
  exact ⟨v, bufs, hD.stays hb, hl, hv⟩

theorem Fused.lt {B p bl : Nat} {Z : List Int} {F j : Nat} {w : World} (h : Fused B p bl Z F j w) : p < w.heap.size := by
  obtain ⟨v, bufs, hD, hl, hv⟩ := h
  exact hD.blk.lt

theorem and31 (n : Int) : bits .and .i64 n 31 = n % 32 := by
  have h31 : (BitVec.ofInt 64 31).toNat = 2 ^ 5 - 1 := by decide
  have key : (BitVec.ofInt 64 n &&& BitVec.ofInt 64 31).toNat = (n % ((2 ^ 64 : Nat) : Int)).toNat % 2 ^ 5 := by
    rw [BitVec.toNat_and, BitVec.toNat_ofInt, h31, Nat.and_two_pow_sub_one_eq_mod]
  show IntKind.i64.wrap ((BitVec.ofInt 64 n &&& BitVec.ofInt 64 31).toNat : Nat) = n % 32
  rw [key, IntKind.wrap_i64]
  omega

theorem fuse_end {w w3 w5 w6 w7 w9 : World} (h3 : Below w.heap.size w w3) (h5 : Below w.heap.size w3 w5) (h6 : Below w5.heap.size w5 w6) (h7 : Below w6.heap.size w6 w7) (h9 : Below w7.heap.size w7 w9) : Below w.heap.size w w9 := by
  have k5 := h3.trans h5
  have k6 := k5.trans (h6.mono k5.size)
  have k7 := k6.trans (h7.mono k6.size)
  exact k7.trans (h9.mono k7.size)

set_option maxRecDepth 100000 in
set_option maxHeartbeats 4000000 in
theorem fuse_walk (f n : Int) (hf : f ≤ 9223372036854775807) (w : World) : Calls Try.prog 5 #[.int .i64 f, .int .i64 n] w fun e w' => e = .returned (.bool true) ∧ Below w.heap.size w w' := by
  have hi : (Try.prog.info? 5).map (fun i => (i.zero, i.size, i.bytes)) = some (some (.int .u8 0), 1, 1) := by kernel_rfl
  obtain ⟨i0, hi0, hz0, hz1, hz2⟩ := info_parts hi
  obtain ⟨k, hk⟩ : ∃ k : Nat, n % 32 = (k : Int) := ⟨(n % 32).toNat, by omega⟩
  have hk32 : k < 32 := by omega
  have hand : bits .and .i64 n 31 = (k : Int) := by rw [and31, hk]
  obtain ⟨F, hF⟩ : ∃ F : Nat, F = (max f 0).toNat := ⟨_, rfl⟩
  have hnew := new_run 512 w (by omega) (by omega)
  obtain ⟨Z, hZ⟩ : ∃ Z : List Int, Z = List.replicate (256 * 512) 0 := ⟨_, rfl⟩
  have hZl : Z.length = 131072 := by rw [hZ, List.length_replicate]
  rw [← hZ] at hnew
  obtain ⟨O, hO⟩ : ∃ O : List Int, O = List.replicate 256 0 := ⟨_, rfl⟩
  have hOl : O.length = 256 := by rw [hO]; simp
  have hOr : ∀ x ∈ O, 0 ≤ x ∧ x ≤ 255 := by rw [hO]; exact mk_zeros_rng 256
  have HO : Hid (O = List.replicate 256 0) := hO
  have HF : Hid (F = (max f 0).toNat) := hF
  clear hk hZ hO hF
  go_enter Try.func5, Try.ntmps5
  go_wp2_with (first
    | (go_at_call 7; refine hnew.mono ?_; clear hnew; rintro e w1 ⟨p, rfl, bl, hD1, hp, hbl, hb1⟩)
    | (go_at_call 20; refine (fuse_run f w1 hD1 hf).mono ?_; rintro e w2 ⟨⟨_, rfl⟩, hD2, hb2⟩; rw [← HF.out] at hD2))
  have hBw2 : Below w.heap.size w w2 := hb1.trans (hb2.below hp hb1.size)
  have hF0 : Fused w.heap.size p bl Z F 0 w2 := ⟨_, [], by rw [decide_eq_false (by omega)]; exact hD2, by simp, fun k h => by simp [Value.ownBlock] at h⟩
  clear hD1 hD2 hb1 hb2
  go_loopw [8, 9] (fun d x wr => ∃ j : Nat, x = .int .i64 j ∧ j ≤ k ∧ d = .int .i64 ((min j F : Nat) : Int) ∧ Fused w.heap.size p bl Z F j wr ∧ Below w.heap.size w wr) (fun _ x _ => k - (intOf x).toNat)
  case atStart => exact ⟨0, rfl, Nat.zero_le _, by simp, hF0, hBw2⟩
  case round =>
    rename_i hrel
    obtain ⟨j, rfl, hj, rfl, hFj, hbj⟩ := hrel
    clear hF0 hBw2
    by_cases hjk : j < k
    · have hjk' : (j : Int) < (k : Int) := by omega
      obtain ⟨M, hM⟩ : ∃ M : Nat, M = min j F := ⟨_, rfl⟩
      have HM : Hid (M = min j F) := hM
      have hM32 : M < 32 := by omega
      rw [← hM]
      clear hM
      by_cases hjF : j < F
      · go_wp2_with (first
          | (refine wpList_make_bytes (w0 := wr) (by rfl) (.const (.int .i64 256)) (.const (.int .i64 256)) 35 (by rfl) wr.heap.size 5 i0 Try.underlying35 hi0 hz0 hz1 hz2 .i64 .i64 256 256 256 (by rfl) (by rfl) (by omega) (by omega) (by omega) (Nat.le_refl _) (Below.refl _ _) ?_; intro w3 hrow3 hb3
             rw [← HO.out] at hrow3
             have hB3 := hrow3.bs hOr (by rw [hOl]; decide)
             rw [hOl] at hB3
             have hcall := fuse_write w.heap.size p bl Z F j wr.heap.size 256 O w3 hZl (by omega) (hFj.stays hb3) hB3 hOl (by have := hFj.lt; omega) hp (by have := hbj.size; have := hb3.size; omega)
             rw [if_pos hjF] at hcall)
          | (go_at_call 15; refine hcall.mono ?_; rintro e w4 ⟨rfl, hF4, hb4⟩))
        go_roundw
        case rel => exact ⟨j + 1, by go_num, by omega, by have := HM.out; congr 1; omega, hF4, (hbj.trans (hb3.mono hbj.size)).trans hb4⟩
        case measure => simp [intOf]; omega
      · go_wp2_with (first
          | (refine wpList_make_bytes (w0 := wr) (by rfl) (.const (.int .i64 256)) (.const (.int .i64 256)) 35 (by rfl) wr.heap.size 5 i0 Try.underlying35 hi0 hz0 hz1 hz2 .i64 .i64 256 256 256 (by rfl) (by rfl) (by omega) (by omega) (by omega) (Nat.le_refl _) (Below.refl _ _) ?_; intro w3 hrow3 hb3
             rw [← HO.out] at hrow3
             have hB3 := hrow3.bs hOr (by rw [hOl]; decide)
             rw [hOl] at hB3
             have hcall := fuse_write w.heap.size p bl Z F j wr.heap.size 256 O w3 hZl (by omega) (hFj.stays hb3) hB3 hOl (by have := hFj.lt; omega) hp (by have := hbj.size; have := hb3.size; omega)
             rw [if_neg hjF] at hcall)
          | (go_at_call 15; refine hcall.mono ?_; rintro e w4 ⟨rfl, hF4, hb4⟩))
        go_roundw
        case rel => exact ⟨j + 1, by go_num, by omega, by have := HM.out; congr 1; omega, hF4, (hbj.trans (hb3.mono hbj.size)).trans hb4⟩
        case measure => simp [intOf]; omega
    · have hjk' : ¬ ((j : Int) < (k : Int)) := by omega
      obtain rfl : j = k := by omega
      have hFf := HF.out
      rcases (by omega : f < 0 ∨ 0 ≤ f) with hf0 | hf0
      · obtain rfl : F = 0 := by omega
        clear hFf HF
        have hmin : min j 0 = 0 := by omega
        rw [hmin]
        by_cases hc : 0 < j
        · have hc' : (0 : Int) < (j : Int) := by omega
          have hcall := fuse_read w.heap.size p bl Z 0 j wr hZl (by omega) hFj
          rw [if_pos hc] at hcall
          go_wp2_with (first
            | (go_at_call 19; refine hcall.mono ?_; clear hcall; rintro e w3 ⟨x3, rfl, hF3, hb3⟩
               have hb3' : Below w.heap.size w w3 := hbj.trans (hb3.mono hbj.size)
               have hwt := fuse_waits w.heap.size p bl Z 0 j w3 hF3
               rw [hmin] at hwt
               have hcr := fuse_crash w.heap.size p bl Z 0 j w3 (by omega) hF3 hp hbl hb3'.size)
            | (go_at_call 21; refine hwt.mono ?_; clear hwt; rintro e w4 ⟨rfl, rfl⟩)
            | (go_at_call 18; refine hcr.mono ?_; clear hcr; rintro e w5 ⟨⟨_, rfl⟩, hD5, hb5⟩
               have hrd := read_done 0 w5 hD5 (by simp) (by omega))
            | (go_at_call 19; refine hrd.mono ?_; clear hrd; rintro e w6 ⟨g6, cap6, rfl, hown6, hb6⟩
               have hD6 := hD5.stays hb6)
            | (go_at_call 9; refine (alive_run _).mono ?_; rintro e w7 ⟨rfl, hb7⟩
               have hD7 := hD6.stays hb7
               have hwt := waits_run _ hD7
               have hdp := dump_run _ hD7
               rw [hZl] at hdp)
            | (go_at_call 21; refine hwt.mono ?_; rintro e w8 ⟨rfl, rfl⟩)
            | (go_at_call 12; refine hdp.mono ?_; rintro e w9 ⟨g9, cap9, rfl, hown9, hb9⟩))
          go_ret
          exact ⟨rfl, fuse_end hb3' hb5 hb6 hb7 hb9⟩
        · obtain rfl : j = 0 := by omega
          have hcall := fuse_read w.heap.size p bl Z 0 0 wr hZl (by omega) hFj
          rw [if_neg hc] at hcall
          go_wp2_with (first
            | (go_at_call 19; refine hcall.mono ?_; clear hcall; rintro e w3 ⟨x3, rfl, hF3, hb3⟩
               have hb3' : Below w.heap.size w w3 := hbj.trans (hb3.mono hbj.size)
               have hwt := fuse_waits w.heap.size p bl Z 0 0 w3 hF3
               rw [hmin] at hwt
               have hcr := fuse_crash w.heap.size p bl Z 0 0 w3 (by omega) hF3 hp hbl hb3'.size)
            | (go_at_call 21; refine hwt.mono ?_; clear hwt; rintro e w4 ⟨rfl, rfl⟩)
            | (go_at_call 18; refine hcr.mono ?_; clear hcr; rintro e w5 ⟨⟨_, rfl⟩, hD5, hb5⟩
               have hrd := read_done 0 w5 hD5 (by simp) (by omega))
            | (go_at_call 19; refine hrd.mono ?_; clear hrd; rintro e w6 ⟨g6, cap6, rfl, hown6, hb6⟩
               have hD6 := hD5.stays hb6)
            | (go_at_call 9; refine (alive_run _).mono ?_; rintro e w7 ⟨rfl, hb7⟩
               have hD7 := hD6.stays hb7
               have hwt := waits_run _ hD7
               have hdp := dump_run _ hD7
               rw [hZl] at hdp)
            | (go_at_call 21; refine hwt.mono ?_; rintro e w8 ⟨rfl, rfl⟩)
            | (go_at_call 12; refine hdp.mono ?_; rintro e w9 ⟨g9, cap9, rfl, hown9, hb9⟩))
          go_ret
          exact ⟨rfl, fuse_end hb3' hb5 hb6 hb7 hb9⟩
      · obtain rfl : f = (F : Int) := by omega
        clear hFf HF
        have hn0 : ¬ ((F : Int) < 0) := by omega
        by_cases hc : F < j
        · have hc' : (F : Int) < (j : Int) := by omega
          have hmin : min j F = F := by omega
          rw [hmin]
          have hcall := fuse_read w.heap.size p bl Z F j wr hZl (by omega) hFj
          rw [if_pos hc] at hcall
          go_wp2_with (first
            | (go_at_call 19; refine hcall.mono ?_; clear hcall; rintro e w3 ⟨x3, rfl, hF3, hb3⟩
               have hb3' : Below w.heap.size w w3 := hbj.trans (hb3.mono hbj.size)
               have hwt := fuse_waits w.heap.size p bl Z F j w3 hF3
               rw [hmin] at hwt
               have hcr := fuse_crash w.heap.size p bl Z F j w3 (by omega) hF3 hp hbl hb3'.size)
            | (go_at_call 21; refine hwt.mono ?_; clear hwt; rintro e w4 ⟨rfl, rfl⟩)
            | (go_at_call 18; refine hcr.mono ?_; clear hcr; rintro e w5 ⟨⟨_, rfl⟩, hD5, hb5⟩
               have hrd := read_done 0 w5 hD5 (by simp) (by omega))
            | (go_at_call 19; refine hrd.mono ?_; clear hrd; rintro e w6 ⟨g6, cap6, rfl, hown6, hb6⟩
               have hD6 := hD5.stays hb6)
            | (go_at_call 9; refine (alive_run _).mono ?_; rintro e w7 ⟨rfl, hb7⟩
               have hD7 := hD6.stays hb7
               have hwt := waits_run _ hD7
               have hdp := dump_run _ hD7
               rw [hZl] at hdp)
            | (go_at_call 21; refine hwt.mono ?_; rintro e w8 ⟨rfl, rfl⟩)
            | (go_at_call 12; refine hdp.mono ?_; rintro e w9 ⟨g9, cap9, rfl, hown9, hb9⟩))
          go_ret
          exact ⟨rfl, fuse_end hb3' hb5 hb6 hb7 hb9⟩
        · have hc' : ¬ ((F : Int) < (j : Int)) := by omega
          have hmin : min j F = j := by omega
          rw [hmin]
          have hcall := fuse_read w.heap.size p bl Z F j wr hZl (by omega) hFj
          rw [if_neg hc] at hcall
          go_wp2_with (first
            | (go_at_call 19; refine hcall.mono ?_; clear hcall; rintro e w3 ⟨x3, rfl, hF3, hb3⟩
               have hb3' : Below w.heap.size w w3 := hbj.trans (hb3.mono hbj.size)
               have hwt := fuse_waits w.heap.size p bl Z F j w3 hF3
               rw [hmin] at hwt
               have hcr := fuse_crash w.heap.size p bl Z F j w3 (by omega) hF3 hp hbl hb3'.size)
            | (go_at_call 21; refine hwt.mono ?_; clear hwt; rintro e w4 ⟨rfl, rfl⟩)
            | (go_at_call 18; refine hcr.mono ?_; clear hcr; rintro e w5 ⟨⟨_, rfl⟩, hD5, hb5⟩
               have hrd := read_done 0 w5 hD5 (by simp) (by omega))
            | (go_at_call 19; refine hrd.mono ?_; clear hrd; rintro e w6 ⟨g6, cap6, rfl, hown6, hb6⟩
               have hD6 := hD5.stays hb6)
            | (go_at_call 9; refine (alive_run _).mono ?_; rintro e w7 ⟨rfl, hb7⟩
               have hD7 := hD6.stays hb7
               have hwt := waits_run _ hD7
               have hdp := dump_run _ hD7
               rw [hZl] at hdp)
            | (go_at_call 21; refine hwt.mono ?_; rintro e w8 ⟨rfl, rfl⟩)
            | (go_at_call 12; refine hdp.mono ?_; rintro e w9 ⟨g9, cap9, rfl, hown9, hb9⟩))
          go_ret
          exact ⟨rfl, fuse_end hb3' hb5 hb6 hb7 hb9⟩

end Go.Proofs.Ytjcckocjinkcmaa
