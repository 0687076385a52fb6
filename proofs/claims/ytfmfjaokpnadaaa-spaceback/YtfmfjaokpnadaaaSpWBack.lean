/-
  The walk of the law SpaceBack.
-/
import Derived.Test.YtfmfjaokpnadaaaSpAlive
import Derived.Test.YtfmfjaokpnadaaaSpOpens
import Derived.Test.YtfmfjaokpnadaaaSpLoad
import Derived.Test.YtfmfjaokpnadaaaSpPure4
import Derived.Test.YtfmfjaokpnadaaaUpKit
namespace Go.Proofs.Ytfmfjaokpnadaaa
set_option linter.unusedSimpArgs false
set_option linter.unusedVariables false
open Go.RowKit

theorem i64_and511 (n : Int) : bits .and .i64 n 511 = n % 512 := by
  have h511 : (BitVec.ofInt 64 511).toNat = 2 ^ 9 - 1 := by decide
  have key : (BitVec.ofInt 64 n &&& BitVec.ofInt 64 511).toNat = (n % ((2 ^ 64 : Nat) : Int)).toNat % 2 ^ 9 := by
    rw [BitVec.toNat_and, BitVec.toNat_ofInt, h511, Nat.and_two_pow_sub_one_eq_mod]
  show IntKind.i64.wrap ((BitVec.ofInt 64 n &&& BitVec.ofInt 64 511).toNat : Nat) = n % 512
  rw [key, IntKind.wrap_i64]
  omega

theorem turn_byte (x : Nat) (hx : x < 256) (i : Nat) : bits .xor .u8 (x : Int) (2 ^ (i % 8) % 256) = ((x ^^^ 2 ^ (i % 8) : Nat) : Int) := by
  have hp : 2 ^ (i % 8) < 256 := Nat.lt_of_lt_of_le (Nat.pow_lt_pow_right (by decide) (show i % 8 < 8 by omega)) (by decide)
  have h := u8_xor_nat x (2 ^ (i % 8)) hx hp
  have e : ((2 : Int) ^ (i % 8)) % 256 = ((2 ^ (i % 8) : Nat) : Int) := by
    rw [Int.natCast_pow, show ((2 : Nat) : Int) = 2 from rfl]
    have h2 : ((2 ^ (i % 8) : Nat) : Int) < 256 := by omega
    rw [Int.natCast_pow, show ((2 : Nat) : Int) = 2 from rfl] at h2
    have h3 : (0 : Int) ≤ 2 ^ (i % 8) := Int.pow_nonneg (by decide)
    omega
  rw [e]
  exact h

set_option maxRecDepth 100000 in
theorem back_bad (n : Int) (hn : ¬ (16 ≤ n ∧ n ≤ 512)) (v : Value) (bt : Int) (w : World) : Calls Try.prog 5 #[.int .i64 n, v, .int .i64 bt] w fun e w' => e = .returned (.bool true) ∧ Below w.heap.size w w' := by
  have HN : Hid (∀ u, Calls Try.prog 8 #[.int .i64 n] u fun e w' => e = .returned (.tuple #[.pointer none, .int .i64 1]) ∧ w' = u) := fun u => new_bad n hn u
  clear hn
  go_enter Try.func5, Try.ntmps5
  go_wp2_with (first
    | (go_at_call 8; refine (HN.out _).mono ?_; rintro e w1 ⟨rfl, rfl⟩)
    | (go_at_call 25; refine (alive_run _).mono ?_; rintro e w3 ⟨rfl, hb3⟩))
  go_ret
  exact ⟨rfl, hb3⟩

set_option maxRecDepth 100000 in
set_option maxHeartbeats 4000000 in
theorem back_walk (n : Nat) (h16 : 16 ≤ n) (h512 : n ≤ 512) (a : Option Addr) (c : Nat) (acts : List ActV) (bt : Int) (w : World) (hS : Acts w a acts) (hlen : acts.length ≤ 9223372036854775807) :
    Calls Try.prog 5 #[.int .i64 (n : Int), .slice a acts.length c, .int .i64 bt] w fun e w' => e = .returned (.bool true) ∧ Below w.heap.size w w' := by
  obtain ⟨g, hg⟩ : ∃ g, g = w.heap.size := ⟨_, rfl⟩
  have HNEW : Hid (Calls Try.prog 8 #[.int .i64 (n : Int)] w fun e w' => e = .returned (.tuple #[.pointer (some ⟨g, 0, none⟩), .int .i64 0]) ∧ Mp w' g (lab n 4) ∧ Below g w w') := by rw [hg]; exact new_run n h16 h512 w
  have HA : Hid (∀ u, Below g w u → Acts u a acts) := fun u hu => hS.stays (by rw [← hg]; exact hu)
  have HL0 : Hid (Lab (lab n 4) ∧ (lab n 4).length = n) := ⟨Lab.lab (by omega), lab_len _ _⟩
  have HG : Hid (g = w.heap.size) := hg
  obtain ⟨sl, hsl⟩ : ∃ sl, sl = acts.length := ⟨_, rfl⟩
  have HSL : Hid (sl = acts.length) := hsl
  rw [← hsl] at hlen ⊢
  rw [← hg]
  clear hg hsl hS
  go_enter Try.func5, Try.ntmps5
  go_wp2_with (first
    | (go_at_call 8; refine HNEW.out.mono ?_; rintro e w1 ⟨rfl, hP1, hb1⟩))
  go_loopw [9] (fun x wr => ∃ (i : Nat) (l : List Bool), x = .int .i64 i ∧ i ≤ 60 ∧ i ≤ sl ∧ Mp wr g l ∧ Lab l ∧ l.length = n ∧ Below g w wr) (fun x _ => 60 - (intOf x).toNat)
  case atStart => exact ⟨0, lab n 4, rfl, by omega, by omega, hP1, HL0.out.1, HL0.out.2, hb1⟩
  case round =>
    rename_i hrel
    clear hP1 hb1
    obtain ⟨i, l, rfl, hi60, hil, hP, hLab, hln, hbr⟩ := hrel
    have hgr : g < wr.heap.size := hP.blk.lt
    by_cases hstop : i < sl ∧ i < 60
    · obtain ⟨hlt, hlt60⟩ := hstop
      obtain ⟨sb, so, ha, hcs, hok⟩ := (HA.out wr hbr).at (i := i) (by rw [← HSL.out]; exact hlt)
      rw [show so + 4 * i = so + i * 4 by omega] at hcs
      obtain ⟨y0, y1, y2, _⟩ := act_cells hcs
      have hpos := hok.pos
      obtain ⟨kd, hkd⟩ : ∃ kd, kd = (acts.getD i default).kind := ⟨_, rfl⟩
      obtain ⟨num, hnum⟩ : ∃ kd, kd = (acts.getD i default).num := ⟨_, rfl⟩
      obtain ⟨pos, hpo⟩ : ∃ kd, kd = (acts.getD i default).pos := ⟨_, rfl⟩
      rw [← hkd] at y0
      rw [← hnum] at y1
      rw [← hpo] at y2 hpos
      have hix : ∀ u : World, (Instr.indexAt 22 (.slice a sl c) (.int .i64 (i : Int))).run Try.prog u = .ok (.pointer (some ⟨sb, so + i * 4, none⟩)) u := fun u => by
        rw [ha]; exact index_act sb so sl c i hlt u
      clear ha hkd hnum hpo hcs hok
      have HT : Hid (Calls Try.prog 12 #[.pointer (some ⟨g, 0, none⟩), .int .i64 num] wr fun e w' => ∃ v, e = .returned (.tuple #[v, .int .i64 ((takeL l num).2.2 : Int)]) ∧ Nums wr.heap.size w' v (takeL l num).2.1 ∧ Mp w' g (takeL l num).1 ∧ But g wr w') := take_run num wr hP
      have HT1 : Hid (Lab (takeL l num).1 ∧ (takeL l num).1.length = n) := ⟨hLab.take (by omega) num, by rw [takeL_len]; exact hln⟩
      have HV : Hid (Calls Try.prog 14 #[.pointer (some ⟨g, 0, none⟩), .int .u32 (pos : Int)] wr fun e w' => e = .returned (.int .i64 ((giveL l pos).2 : Int)) ∧ Mp w' g (giveL l pos).1 ∧ But g wr w') := give_run pos hpos wr hP
      have HV1 : Hid (Lab (giveL l pos).1 ∧ (giveL l pos).1.length = n) := ⟨hLab.give pos, by rw [giveL_len]; exact hln⟩
      have HSB : Hid (sb < wr.heap.size ∧ sb ≠ g) := by
        have h1 := World.block_lt_of_cell? wr _ y0
        refine ⟨h1, ?_⟩
        rintro rfl
        exact hP.not_u32 _ _ y2
      by_cases hk1 : kd = 1
      · subst hk1
        go_wp2_with (first
          | (go_at_call 12; refine HT.out.mono ?_; rintro e w2 ⟨v2, rfl, _, hP2, hb2⟩
             have y0' : w2.cell? ⟨sb, so + i * 4, none⟩ = some (.int .i64 1) := (World.cell?_of_block (w := wr) (hb2.block sb HSB.out.2 HSB.out.1)).trans y0))
        go_roundw
        case rel => exact ⟨i + 1, _, by go_num, by omega, by omega, hP2, HT1.out.1, HT1.out.2, hbr.trans (hb2.below (Nat.le_refl _) (Nat.le_of_lt hgr))⟩
        case measure => simp [intOf]; omega
      · have hb1 : (kd == 1) = false := beq_false_of_ne hk1
        by_cases hk2 : kd = 2
        · subst hk2
          clear hk1 hb1
          go_wp2_with (first
            | (go_at_call 14; refine HV.out.mono ?_; rintro e w2 ⟨rfl, hP2, hb2⟩))
          go_roundw
          case rel => exact ⟨i + 1, _, by go_num, by omega, by omega, hP2, HV1.out.1, HV1.out.2, hbr.trans (hb2.below (Nat.le_refl _) (Nat.le_of_lt hgr))⟩
          case measure => simp [intOf]; omega
        · have hb2 : (kd == 2) = false := beq_false_of_ne hk2
          clear hk1 hk2
          go_wp2
          go_roundw
          case rel => exact ⟨i + 1, l, by go_num, by omega, by omega, hP, hLab, hln, hbr⟩
          case measure => simp [intOf]; omega
    · have HLD : Hid (∀ (B C : Nat) u, Row 5 u B (bytesL l) → C = u.heap.size → Calls Try.prog 26 #[.slice (some ⟨B, 0, none⟩) 64 64, .int .i64 (n : Int)] u fun e w' => e = .returned (.tuple #[.pointer (some ⟨C, 0, none⟩), .int .i64 0]) ∧ Mp w' C l ∧ Below C u w') := fun B C u hu hC => by
        have hB := hu.bs (bytesL_rng l) (by rw [bytesL_len]; decide)
        rw [bytesL_len] at hB
        refine (load_walk n h16 h512 _ 64 (bytesL l) u hB (bytesL_len l)).mono ?_
        rintro e w' (⟨h1, h2, h3, h4⟩ | ⟨h1, _⟩)
        · rw [mapX_bytes hln h512] at h3
          rw [hC]; exact ⟨h2, h3, h4⟩
        · exact absurd (okX_bytes hln hLab) h1
      have HBY : Hid (∀ u q, Mp u q l → Calls Try.prog 11 #[.pointer (some ⟨q, 0, none⟩)] u fun e w' => ∃ a c, e = .returned (.slice a 64 c) ∧ Bs w' a c (bytesL l) ∧ Below u.heap.size u w') := fun u q hu => by
        refine (bytes_run u hu).mono ?_
        rintro e w' ⟨h1, h2, h3⟩
        have hB := h2.bs (bytesL_rng l) (by rw [bytesL_len]; decide)
        rw [bytesL_len] at hB
        exact ⟨_, 64, h1, hB, h3⟩
      obtain ⟨k, hk⟩ : ∃ k : Nat, k = (bt % 512).toNat := ⟨_, rfl⟩
      have hkl : k < 512 := by omega
      have hand : bits .and .i64 bt 511 = (k : Int) := by rw [i64_and511]; omega
      obtain ⟨X, hX⟩ : ∃ X, X = bytesL l := ⟨_, rfl⟩
      have hXl : X.length = 64 := by rw [hX]; exact bytesL_len l
      have HXR : Hid (∀ x ∈ X, 0 ≤ x ∧ x ≤ 255) := by rw [hX]; exact bytesL_rng l
      have HLT : Hid (∀ (B : Nat) u, Row 5 u B (turnX X k) → Calls Try.prog 26 #[.slice (some ⟨B, 0, none⟩) 64 64, .int .i64 (n : Int)] u fun e w' => ((4 ≤ k ∧ k < n) ∧ e = .returned (.tuple #[.pointer (some ⟨u.heap.size, 0, none⟩), .int .i64 0]) ∧ Below u.heap.size u w') ∨ (¬ (4 ≤ k ∧ k < n) ∧ e = .returned (.tuple #[.pointer none, .int .i64 3]) ∧ Below u.heap.size u w')) := fun B u hu => by
        have hB := hu.bs (turnX_rng HXR.out k) (by rw [turnX_len, hXl]; decide)
        rw [turnX_len, hXl] at hB
        refine (load_walk n h16 h512 _ 64 (turnX X k) u hB (by rw [turnX_len, hXl])).mono ?_
        have hiff := turn_ok hln h512 hLab k hkl
        rw [← hX] at hiff
        rintro e w' (⟨h1, h2, h3, h4⟩ | ⟨h1, h2, h3⟩)
        · exact .inl ⟨hiff.1 h1, h2, h4⟩
        · exact .inr ⟨fun h => h1 (hiff.2 h), h2, h3⟩
      have HLD' : Hid (∀ (B C : Nat) u, Row 5 u B X → C = u.heap.size → Calls Try.prog 26 #[.slice (some ⟨B, 0, none⟩) 64 64, .int .i64 (n : Int)] u fun e w' => e = .returned (.tuple #[.pointer (some ⟨C, 0, none⟩), .int .i64 0]) ∧ Mp w' C l ∧ Below C u w') := by rw [hX]; exact HLD.out
      have HBY' : Hid (∀ u q, Mp u q l → Calls Try.prog 11 #[.pointer (some ⟨q, 0, none⟩)] u fun e w' => ∃ a c, e = .returned (.slice a 64 c) ∧ Bs w' a c X ∧ Below u.heap.size u w') := by rw [hX]; exact HBY.out
      have HB1 : Hid (Calls Try.prog 11 #[.pointer (some ⟨g, 0, none⟩)] wr fun e w' => e = .returned (.slice (some ⟨wr.heap.size, 0, none⟩) 64 64) ∧ Row 5 w' wr.heap.size X ∧ Below wr.heap.size wr w') := by rw [hX]; exact bytes_run wr hP
      obtain ⟨Z, hZ⟩ : ∃ Z, Z = strOfNums X := ⟨_, rfl⟩
      have HCN : Hid (∀ a' c' u, slB 64 X (.slice a' 64 c') u → (convert 37 9 (.slice a' 64 c')).run Try.prog u = .ok (.string Z) u) := fun a' c' u hu => by
        obtain ⟨a2, c2, h5, h6⟩ := hu
        cases h5
        rw [hZ]
        exact h6.conv 64 hXl.symm 37 5 Try.underlying37 Try.underlying5 9 Try.underlying9
      have HXL : Hid (X.length = 64) := hXl
      clear hX hk hZ HLD HBY hXl hP
      obtain ⟨B, hB⟩ : ∃ B, B = wr.heap.size := ⟨_, rfl⟩
      rw [← hB] at HB1
      have HBE : Hid (B = wr.heap.size) := hB
      clear hB
      by_cases h1 : i < sl
      · have h2 : ¬ i < 60 := fun h => hstop ⟨h1, h⟩
        clear hstop
        go_wp2_with (first
          | (go_at_call 11; refine HB1.out.mono ?_; rintro e w2 ⟨rfl, hR2, hb2⟩; obtain ⟨C, hC⟩ : ∃ C, C = w2.heap.size := ⟨_, rfl⟩; have HCE : Hid (C = w2.heap.size) := hC; have hld := HLD'.out B C w2 hR2 hC; clear hC)
          | (go_at_call 26; refine hld.mono ?_; clear hld; rintro e w3 ⟨rfl, hC3, hb3⟩))
        have hR3 : Row 5 w3 B X := Row.stays hR2 (by rw [← HCE.out]; exact hb3)
        have HB3 : Hid (∀ u, Below w3.heap.size w3 u → (convert 37 9 (.slice (some ⟨B, 0, none⟩) 64 64)).run Try.prog u = .ok (.string Z) u) := fun u hu => by
          have h5 := (Row.stays hR3 hu).bs HXR.out (by rw [HXL.out]; decide)
          rw [HXL.out] at h5
          exact HCN.out _ _ _ ⟨_, _, rfl, h5⟩
        refine Up.wp_region_up (Up.tell [(13, slB 64 X)]) (by kernel_rfl) (by kernel_rfl) (Up.tell_steady _ (by
          intro p hp
          simp only [List.mem_cons, List.not_mem_nil, or_false] at hp
          rcases hp with rfl <;> first | exact isV_steady _ | exact slB_steady _ _)) ?_
        repeat (first
          | (refine Up.wpUp_pass (by rfl) ?_; simp only [Act.put, List.setIfInBounds_toArray, List.set_cons_zero, List.set_cons_succ])
          | (apply Up.wpUp_pure
             case hw => rfl
             case hψ => rfl
             case hv => (intro w1 hp; clear hp; go_simp; try (with_reducible rfl))
             simp only [Act.put, List.setIfInBounds_toArray, List.set_cons_zero, List.set_cons_succ]))
        refine Up.wpUp_call _ 11 #[.pointer (some ⟨C, 0, none⟩)] (by rfl) (by rfl) (fun w1 => by go_simp) (fun w1 hp => calls_slB (HBY'.out w1 C (hC3.stays hp.1))) ?_
        rintro v ⟨u, _, hf⟩
        obtain ⟨a3, c3, rfl, _⟩ := hf 13 v _ rfl rfl
        clear hf
        simp only [Act.put, List.setIfInBounds_toArray, List.set_cons_zero, List.set_cons_succ]
        repeat (first
          | (refine Up.wpUp_pass (by rfl) ?_; simp only [Act.put, List.setIfInBounds_toArray, List.set_cons_zero, List.set_cons_succ])
          | (apply Up.wpUp_pure
             case hw => rfl
             case hψ => rfl
             case hv => (intro w1 hp; clear hp; go_simp; try (with_reducible rfl))
             simp only [Act.put, List.setIfInBounds_toArray, List.set_cons_zero, List.set_cons_succ])
          | (apply Up.wpUp_pure
             case hw => rfl
             case hψ => rfl
             case hv => (intro w1 hp; have hq3 := HCN.out _ _ _ (hp.2 13 _ _ rfl rfl rfl); clear hp; go_simp; try (with_reducible rfl))
             simp only [Act.put, List.setIfInBounds_toArray, List.set_cons_zero, List.set_cons_succ])
          | (apply Up.wpUp_pure
             case hw => rfl
             case hψ => rfl
             case hv => (intro w1 hp; have hq3 := HB3.out _ hp.1; clear hp; go_simp; try (with_reducible rfl))
             simp only [Act.put, List.setIfInBounds_toArray, List.set_cons_zero, List.set_cons_succ]))
        refine Up.wpUp_end ?_
        intro w4 hb4 _
        have hR4 : Row 5 w4 B X := Row.stays hR3 hb4
        clear HB3
        obtain ⟨x, hcx, hxl, hxe⟩ : ∃ x : Nat, w4.cell? ⟨B, k / 8, none⟩ = some (.int .u8 (x : Int)) ∧ x < 256 ∧ X.getD (k / 8) 0 = (x : Int) := by
          have h4 := HXR.out (X.getD (k / 8) 0) (by have := HXL.out; simp [List.getD, show k / 8 < X.length by omega])
          refine ⟨(X.getD (k / 8) 0).toNat, ?_, by omega, by omega⟩
          have h5 := hR4
          unfold Row at h5
          have := HXL.out
          simp [World.cell?, h5, List.getD, show k / 8 < X.length by omega] at h4 ⊢
          omega
        have htb := turn_byte x hxl k
        have HTX : Hid (X.set (k / 8) (((x ^^^ 2 ^ (k % 8) : Nat)) : Int) = turnX X k) := by show _ = _; unfold turnX; rw [hxe]; rfl
        have hix : ∀ u : World, (Instr.indexAt 37 (.slice (some ⟨B, 0, none⟩) 64 64) (.int .i64 ((k : Int) / 8))).run Try.prog u = .ok (.pointer (some ⟨B, k / 8, none⟩)) u := fun u => by
          have := index_run 37 5 Try.underlying37 sizes5 elem5 B 0 64 64 .i64 (k / 8) (by omega) u
          rwa [Nat.zero_add, show (((k / 8 : Nat)) : Int) = (k : Int) / 8 by omega] at this
        have hcl : k / 8 < (X.map (Value.int .u8)).length := by rw [List.length_map, HXL.out]; omega
        clear hxe
        have hwn : ∀ y : Int, (X.map (Value.int .u8)).set (k / 8) (.int .u8 y) = (X.set (k / 8) y).map (Value.int .u8) := fun y => by rw [List.map_set]
        have HWN : Hid _ := hwn
        clear hwn
        have hbB : g ≤ B := by have := HBE.out; omega
        have hK4 : Blk 5 w4 B (X.map (Value.int .u8)) := hR4
        have hX4 : Below g w w4 := ((hbr.trans (hb2.mono hbB)).trans (hb3.mono (by have := HCE.out; have := hb2.size; omega))).trans (hb4.mono (by have := HCE.out; have := hb2.size; have := hb3.size; omega))
        by_cases hin : 4 ≤ k ∧ k < n
        · have HL1 : Hid (∀ (B : Nat) u, Row 5 u B (turnX X k) → Calls Try.prog 26 #[.slice (some ⟨B, 0, none⟩) 64 64, .int .i64 (n : Int)] u fun e w' => ∃ q, e = .returned (.tuple #[.pointer (some ⟨q, 0, none⟩), .int .i64 0]) ∧ Below u.heap.size u w') := fun B u hu => (HLT.out B u hu).mono fun e w' h => by
            rcases h with ⟨_, h1, h2⟩ | ⟨h0, _⟩
            · exact ⟨_, h1, h2⟩
            · exact absurd hin h0
          obtain ⟨hk4, hkn⟩ := hin
          go_wp2_with (first
            | (refine wpList_store_int (by rfl) (.tmp 110) (.tmp 109) 5 (by rfl) B (k / 8) (by rfl) .u8 _ (by rfl) size_u8 hK4 hcl ?_; intro w5 hR5 hbut5 hs5; have hR6 : Row 5 w5 B (turnX X k) := by (rw [HWN.out, HTX.out] at hR5; exact hR5))
            | (go_at_call 26; refine (HL1.out _ _ hR6).mono ?_; rintro e w7 ⟨q7, rfl, hb7⟩)
            | (go_at_call 25; refine (alive_run _).mono ?_; rintro e w8 ⟨rfl, hb8⟩))
          go_ret
          refine ⟨rfl, ?_⟩
          have z4 := hX4.size
          have zg := HG.out
          exact ((hX4.trans (hbut5.below hbB (by omega))).trans (hb7.mono (by omega))).trans (hb8.mono (by have := hb7.size; omega))
        · have HL1 : Hid (∀ (B : Nat) u, Row 5 u B (turnX X k) → Calls Try.prog 26 #[.slice (some ⟨B, 0, none⟩) 64 64, .int .i64 (n : Int)] u fun e w' => e = .returned (.tuple #[.pointer none, .int .i64 3]) ∧ Below u.heap.size u w') := fun B u hu => (HLT.out B u hu).mono fun e w' h => by
            rcases h with ⟨h0, _⟩ | ⟨_, h1, h2⟩
            · exact absurd h0 hin
            · exact ⟨h1, h2⟩
          have hk4 : ¬ 4 ≤ k ∨ (4 ≤ k ∧ ¬ k < n) := by omega
          clear hin
          rcases hk4 with hk4 | ⟨hk4, hkn⟩
          all_goals
            go_wp2_with (first
              | (refine wpList_store_int (by rfl) (.tmp 110) (.tmp 109) 5 (by rfl) B (k / 8) (by rfl) .u8 _ (by rfl) size_u8 hK4 hcl ?_; intro w5 hR5 hbut5 hs5; have hR6 : Row 5 w5 B (turnX X k) := by (rw [HWN.out, HTX.out] at hR5; exact hR5))
              | (go_at_call 26; refine (HL1.out _ _ hR6).mono ?_; rintro e w7 ⟨rfl, hb7⟩)
              | (go_at_call 25; refine (alive_run _).mono ?_; rintro e w8 ⟨rfl, hb8⟩))
            go_ret
            refine ⟨rfl, ?_⟩
            have z4 := hX4.size
            have zg := HG.out
            exact ((hX4.trans (hbut5.below hbB (by omega))).trans (hb7.mono (by omega))).trans (hb8.mono (by have := hb7.size; omega))
      · clear hstop
        go_wp2_with (first
          | (go_at_call 11; refine HB1.out.mono ?_; rintro e w2 ⟨rfl, hR2, hb2⟩; obtain ⟨C, hC⟩ : ∃ C, C = w2.heap.size := ⟨_, rfl⟩; have HCE : Hid (C = w2.heap.size) := hC; have hld := HLD'.out B C w2 hR2 hC; clear hC)
          | (go_at_call 26; refine hld.mono ?_; clear hld; rintro e w3 ⟨rfl, hC3, hb3⟩))
        have hR3 : Row 5 w3 B X := Row.stays hR2 (by rw [← HCE.out]; exact hb3)
        have HB3 : Hid (∀ u, Below w3.heap.size w3 u → (convert 37 9 (.slice (some ⟨B, 0, none⟩) 64 64)).run Try.prog u = .ok (.string Z) u) := fun u hu => by
          have h5 := (Row.stays hR3 hu).bs HXR.out (by rw [HXL.out]; decide)
          rw [HXL.out] at h5
          exact HCN.out _ _ _ ⟨_, _, rfl, h5⟩
        refine Up.wp_region_up (Up.tell [(13, slB 64 X)]) (by kernel_rfl) (by kernel_rfl) (Up.tell_steady _ (by
          intro p hp
          simp only [List.mem_cons, List.not_mem_nil, or_false] at hp
          rcases hp with rfl <;> first | exact isV_steady _ | exact slB_steady _ _)) ?_
        repeat (first
          | (refine Up.wpUp_pass (by rfl) ?_; simp only [Act.put, List.setIfInBounds_toArray, List.set_cons_zero, List.set_cons_succ])
          | (apply Up.wpUp_pure
             case hw => rfl
             case hψ => rfl
             case hv => (intro w1 hp; clear hp; go_simp; try (with_reducible rfl))
             simp only [Act.put, List.setIfInBounds_toArray, List.set_cons_zero, List.set_cons_succ]))
        refine Up.wpUp_call _ 11 #[.pointer (some ⟨C, 0, none⟩)] (by rfl) (by rfl) (fun w1 => by go_simp) (fun w1 hp => calls_slB (HBY'.out w1 C (hC3.stays hp.1))) ?_
        rintro v ⟨u, _, hf⟩
        obtain ⟨a3, c3, rfl, _⟩ := hf 13 v _ rfl rfl
        clear hf
        simp only [Act.put, List.setIfInBounds_toArray, List.set_cons_zero, List.set_cons_succ]
        repeat (first
          | (refine Up.wpUp_pass (by rfl) ?_; simp only [Act.put, List.setIfInBounds_toArray, List.set_cons_zero, List.set_cons_succ])
          | (apply Up.wpUp_pure
             case hw => rfl
             case hψ => rfl
             case hv => (intro w1 hp; clear hp; go_simp; try (with_reducible rfl))
             simp only [Act.put, List.setIfInBounds_toArray, List.set_cons_zero, List.set_cons_succ])
          | (apply Up.wpUp_pure
             case hw => rfl
             case hψ => rfl
             case hv => (intro w1 hp; have hq3 := HCN.out _ _ _ (hp.2 13 _ _ rfl rfl rfl); clear hp; go_simp; try (with_reducible rfl))
             simp only [Act.put, List.setIfInBounds_toArray, List.set_cons_zero, List.set_cons_succ])
          | (apply Up.wpUp_pure
             case hw => rfl
             case hψ => rfl
             case hv => (intro w1 hp; have hq3 := HB3.out _ hp.1; clear hp; go_simp; try (with_reducible rfl))
             simp only [Act.put, List.setIfInBounds_toArray, List.set_cons_zero, List.set_cons_succ]))
        refine Up.wpUp_end ?_
        intro w4 hb4 _
        have hR4 : Row 5 w4 B X := Row.stays hR3 hb4
        clear HB3
        obtain ⟨x, hcx, hxl, hxe⟩ : ∃ x : Nat, w4.cell? ⟨B, k / 8, none⟩ = some (.int .u8 (x : Int)) ∧ x < 256 ∧ X.getD (k / 8) 0 = (x : Int) := by
          have h4 := HXR.out (X.getD (k / 8) 0) (by have := HXL.out; simp [List.getD, show k / 8 < X.length by omega])
          refine ⟨(X.getD (k / 8) 0).toNat, ?_, by omega, by omega⟩
          have h5 := hR4
          unfold Row at h5
          have := HXL.out
          simp [World.cell?, h5, List.getD, show k / 8 < X.length by omega] at h4 ⊢
          omega
        have htb := turn_byte x hxl k
        have HTX : Hid (X.set (k / 8) (((x ^^^ 2 ^ (k % 8) : Nat)) : Int) = turnX X k) := by show _ = _; unfold turnX; rw [hxe]; rfl
        have hix : ∀ u : World, (Instr.indexAt 37 (.slice (some ⟨B, 0, none⟩) 64 64) (.int .i64 ((k : Int) / 8))).run Try.prog u = .ok (.pointer (some ⟨B, k / 8, none⟩)) u := fun u => by
          have := index_run 37 5 Try.underlying37 sizes5 elem5 B 0 64 64 .i64 (k / 8) (by omega) u
          rwa [Nat.zero_add, show (((k / 8 : Nat)) : Int) = (k : Int) / 8 by omega] at this
        have hcl : k / 8 < (X.map (Value.int .u8)).length := by rw [List.length_map, HXL.out]; omega
        clear hxe
        have hwn : ∀ y : Int, (X.map (Value.int .u8)).set (k / 8) (.int .u8 y) = (X.set (k / 8) y).map (Value.int .u8) := fun y => by rw [List.map_set]
        have HWN : Hid _ := hwn
        clear hwn
        have hbB : g ≤ B := by have := HBE.out; omega
        have hK4 : Blk 5 w4 B (X.map (Value.int .u8)) := hR4
        have hX4 : Below g w w4 := ((hbr.trans (hb2.mono hbB)).trans (hb3.mono (by have := HCE.out; have := hb2.size; omega))).trans (hb4.mono (by have := HCE.out; have := hb2.size; have := hb3.size; omega))
        by_cases hin : 4 ≤ k ∧ k < n
        · have HL1 : Hid (∀ (B : Nat) u, Row 5 u B (turnX X k) → Calls Try.prog 26 #[.slice (some ⟨B, 0, none⟩) 64 64, .int .i64 (n : Int)] u fun e w' => ∃ q, e = .returned (.tuple #[.pointer (some ⟨q, 0, none⟩), .int .i64 0]) ∧ Below u.heap.size u w') := fun B u hu => (HLT.out B u hu).mono fun e w' h => by
            rcases h with ⟨_, h1, h2⟩ | ⟨h0, _⟩
            · exact ⟨_, h1, h2⟩
            · exact absurd hin h0
          obtain ⟨hk4, hkn⟩ := hin
          go_wp2_with (first
            | (refine wpList_store_int (by rfl) (.tmp 110) (.tmp 109) 5 (by rfl) B (k / 8) (by rfl) .u8 _ (by rfl) size_u8 hK4 hcl ?_; intro w5 hR5 hbut5 hs5; have hR6 : Row 5 w5 B (turnX X k) := by (rw [HWN.out, HTX.out] at hR5; exact hR5))
            | (go_at_call 26; refine (HL1.out _ _ hR6).mono ?_; rintro e w7 ⟨q7, rfl, hb7⟩)
            | (go_at_call 25; refine (alive_run _).mono ?_; rintro e w8 ⟨rfl, hb8⟩))
          go_ret
          refine ⟨rfl, ?_⟩
          have z4 := hX4.size
          have zg := HG.out
          exact ((hX4.trans (hbut5.below hbB (by omega))).trans (hb7.mono (by omega))).trans (hb8.mono (by have := hb7.size; omega))
        · have HL1 : Hid (∀ (B : Nat) u, Row 5 u B (turnX X k) → Calls Try.prog 26 #[.slice (some ⟨B, 0, none⟩) 64 64, .int .i64 (n : Int)] u fun e w' => e = .returned (.tuple #[.pointer none, .int .i64 3]) ∧ Below u.heap.size u w') := fun B u hu => (HLT.out B u hu).mono fun e w' h => by
            rcases h with ⟨h0, _⟩ | ⟨_, h1, h2⟩
            · exact absurd h0 hin
            · exact ⟨h1, h2⟩
          have hk4 : ¬ 4 ≤ k ∨ (4 ≤ k ∧ ¬ k < n) := by omega
          clear hin
          rcases hk4 with hk4 | ⟨hk4, hkn⟩
          all_goals
            go_wp2_with (first
              | (refine wpList_store_int (by rfl) (.tmp 110) (.tmp 109) 5 (by rfl) B (k / 8) (by rfl) .u8 _ (by rfl) size_u8 hK4 hcl ?_; intro w5 hR5 hbut5 hs5; have hR6 : Row 5 w5 B (turnX X k) := by (rw [HWN.out, HTX.out] at hR5; exact hR5))
              | (go_at_call 26; refine (HL1.out _ _ hR6).mono ?_; rintro e w7 ⟨rfl, hb7⟩)
              | (go_at_call 25; refine (alive_run _).mono ?_; rintro e w8 ⟨rfl, hb8⟩))
            go_ret
            refine ⟨rfl, ?_⟩
            have z4 := hX4.size
            have zg := HG.out
            exact ((hX4.trans (hbut5.below hbB (by omega))).trans (hb7.mono (by omega))).trans (hb8.mono (by have := hb7.size; omega))

theorem back_all (n : Int) (a : Option Addr) (c : Nat) (acts : List ActV) (bt : Int) (w : World) (hS : Acts w a acts) (hlen : acts.length ≤ 9223372036854775807) :
    Calls Try.prog 5 #[.int .i64 n, .slice a acts.length c, .int .i64 bt] w fun e w' => e = .returned (.bool true) ∧ Below w.heap.size w w' := by
  by_cases hn : 16 ≤ n ∧ n ≤ 512
  · obtain ⟨m, rfl⟩ : ∃ m : Nat, n = (m : Int) := ⟨n.toNat, by omega⟩
    exact back_walk m (by omega) (by omega) a c acts bt w hS hlen
  · exact back_bad n hn _ bt w
end Go.Proofs.Ytfmfjaokpnadaaa
