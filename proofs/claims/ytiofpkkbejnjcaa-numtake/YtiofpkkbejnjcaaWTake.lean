/-
  The walk over the law NumTake.
-/
import Derived.Test.YtiofpkkbejnjcaaFresh
namespace Go.Proofs.Ytiofpkkbejnjcaa
set_option linter.unusedSimpArgs false
set_option linter.unusedVariables false
open Go.RowKit

/-- The first j bytes turned. -/
def flipK (P : List Int) (j : Nat) : List Int := (P.take j).map (fun x => 255 - x) ++ P.drop j

theorem flipK_length (P : List Int) (j : Nat) : (flipK P j).length = P.length := by simp [flipK]; omega
theorem flipK_here (P : List Int) (j : Nat) (h : j < P.length) : (flipK P j).getD j 0 = P.getD j 0 := by
  have : min j P.length = j := by omega
  simp [flipK, List.getD, List.getElem?_append, this, List.getElem?_drop]
theorem flipK_set (P : List Int) (j : Nat) (h : j < P.length) : (flipK P j).set j (255 - P.getD j 0) = flipK P (j + 1) := by
  unfold flipK
  rw [List.set_append_right _ _ (by simp; omega)]
  have h0 : j - ((P.take j).map (fun x => 255 - x)).length = 0 := by simp; omega
  rw [h0, List.drop_eq_getElem_cons h, List.set_cons_zero, List.take_succ_eq_append_getElem h, List.map_append, List.append_assoc]
  simp [List.getD, h]
theorem flipK_all (P : List Int) (j : Nat) (h : j < P.length) : (flipK P P.length).getD j 0 = 255 - P.getD j 0 := by
  simp [flipK, List.getD, h]

theorem tail_conv {w : World} {g m : Nat} {T : List Int} (hm : m = T.length) (h : Bs w (some ⟨g, 0, none⟩) T.length T) : (convert 22 9 (.slice (some ⟨g, 0, none⟩) m m)).run Try.prog w = .ok (.string (strOfNums T)) w := by
  subst hm; exact conv9 h _ rfl

set_option maxRecDepth 100000 in
theorem takelaw_great (a : Option Addr) (c l : Nat) (n : Int) (w : World) (h : 300 < l) : Calls Try.prog 4 #[.slice a l c, .int .i64 n] w fun e w' => e = .returned (.bool true) ∧ Below w.heap.size w w' := by
  go_enter Try.func4, Try.ntmps4
  go_wp2_with (go_at_call 8; go_must (refine (alive_any _).mono ?_); rintro e w' ⟨rfl, hb⟩)
  go_ret
  exact ⟨rfl, hb⟩

set_option maxRecDepth 100000 in
set_option maxHeartbeats 1000000 in
theorem takelaw_ok (a : Option Addr) (c : Nat) (xs : List Int) (k : Nat) (hk : k ≤ xs.length) (w : World) (hX : Bs w a c xs) (hx : xs.length ≤ 300) :
    Calls Try.prog 4 #[.slice a xs.length c, .int .i64 k] w fun e w' => e = .returned (.bool true) ∧ Below w.heap.size w w' := by
  obtain ⟨i0, hi, hz0, hz1, hz2⟩ := info_parts Try.info5
  have h1 := fun (b : Option Addr) d u hb => take_any b d xs u hb (by omega)
  have h2 := fun u hb => rtake_any a c xs u hb (by omega)
  have h3 := fun (b : Option Addr) d u hb => take32_any b d xs u hb (by omega)
  have h4 := fun u hb => rtake32_any a c xs u hb (by omega)
  have h5 := fun (b : Option Addr) d u hb => takeBytes_row b d xs k u hb (by omega) hk
  have h6 := fun u hb => rtakeBytes_sub a c xs k u hk hb (by omega)
  obtain ⟨⟨n1, l1, z1⟩, hr1⟩ : ∃ r, takeL xs = r := ⟨_, rfl⟩
  obtain ⟨⟨n2, l2, z2⟩, hr2⟩ : ∃ r, take32L xs = r := ⟨_, rfl⟩
  rw [hr1] at h1 h2
  rw [hr2] at h3 h4
  obtain ⟨PL, hPL⟩ : ∃ L, xs.take k = L := ⟨_, rfl⟩
  obtain ⟨T, hT⟩ : ∃ L, xs.drop k = L := ⟨_, rfl⟩
  have hPl : PL.length = k := by rw [← hPL]; simp; omega
  have hPx : ∀ j, j < k → PL.getD j 0 = xs.getD j 0 := fun j hj => by rw [← hPL]; simp [List.getD, List.getElem?_take, hj]
  have hTl : xs.length - k = T.length := by rw [← hT]; simp
  rw [hPL, hT] at h5 h6
  simp only at h1 h2 h3 h4
  have H1 : Hid _ := h1
  have H2 : Hid _ := h2
  have H3 : Hid _ := h3
  have H4 : Hid _ := h4
  have H5 : Hid _ := h5
  have H6 : Hid _ := h6
  have HRx : Hid (∀ y ∈ xs, 0 ≤ y ∧ y ≤ 255) := hX.rng
  have HPl : Hid (PL.length = k) := hPl
  have HPx : Hid (∀ j, j < k → PL.getD j 0 = xs.getD j 0) := hPx
  have HTl : Hid (xs.length - k = T.length) := hTl
  clear h1 h2 h3 h4 h5 h6 hr1 hr2 hPL hT hPl hPx hTl
  go_enter Try.func4, Try.ntmps4
  go_wp2_with (first
    | (at_builtin; go_must (refine wpList_append_bytes (w0 := w) (by rfl) (.tmp 31) (.tmp 32) 22 (by rfl) w.heap.size 5 i0 Try.underlying22 hi hz0 hz1 hz2 _ [] (by rfl) (World.ownsRow_made w #[] 0 (Nat.le_refl _) (by decide) rfl) a xs.length c xs (by rfl) rfl (hX.stays ((Below.refl _ _).alloc (Nat.le_refl _) _)) (by simp; omega) (by simp) ((Below.refl _ _).alloc (Nat.le_refl _) _) ?_); rw [List.nil_append]; intro v1 w1 hown1 hb1; obtain ⟨a1, c1, hv1, hB1⟩ := Bs.of_owns hown1 HRx.out; rw [hv1])
    | (go_at_call 15; go_must (refine Calls.mono (H1.out a1 c1 w1 hB1) ?_); rintro e w2 ⟨a2, c2, rfl, hB2, hb2⟩)
    | (go_at_call 16; go_must (refine Calls.mono (H2.out w2 ((hX.stays hb1).stays hb2)) ?_); rintro e w3 ⟨a3, c3, rfl, hB3, hb3⟩)
    | (go_at_call 17; go_must (refine Calls.mono (H3.out a1 c1 w3 ((hB1.stays hb2).stays hb3)) ?_); rintro e w4 ⟨a4, c4, rfl, hB4, hb4⟩)
    | (go_at_call 18; go_must (refine Calls.mono (H4.out w4 ((((hX.stays hb1).stays hb2).stays hb3).stays hb4)) ?_); rintro e w5 ⟨a5, c5, rfl, hB5, hb5⟩)
    | (go_at_call 19; go_must (refine Calls.mono (H5.out a1 c1 w5 ((((hB1.stays hb2).stays hb3).stays hb4).stays hb5)) ?_); rintro e w6 ⟨g, rfl, hg, hR6, hT6, hb6⟩)
    | (go_at_call 20; go_must (refine Calls.mono (H6.out w6 ((((((hX.stays hb1).stays hb2).stays hb3).stays hb4).stays hb5).stays hb6)) ?_); rintro e w7 ⟨a7, c7, rfl, hsub, hb7⟩))
  have hall5 : Hid (Below w.heap.size w w5) := below_then (below_then (below_then (below_then hb1 hb2) hb3) hb4) hb5
  have hX5 := hX.stays hall5.out
  have hO5 := (((hB1.stays hb2).stays hb3).stays hb4).stays hb5
  have h25 := ((hB2.stays hb3).stays hb4).stays hb5
  have h35 := (hB3.stays hb4).stays hb5
  have h45 := hB4.stays hb5
  have hb57 := below_then hb6 hb7
  have hR7 := hR6.stays hb7
  have hT7 := hT6.stays hb7
  have HSUB : Hid (∀ u, Bs u a c xs → Bs u a c PL ∧ Bs u a7 c7 T) := hsub
  clear H1 H2 H3 H4 H5 H6 HRx hX hB1 hB2 hB3 hB4 hb1 hb2 hb3 hb4 hb5 hb6 hb7 hR6 hT6 hsub hown1 hv1 hi hz0 hz1 hz2
  go_loopw [24] (fun i wr => ∃ j : Nat, j ≤ k ∧ i = .int .i64 j ∧ Row 5 wr w5.heap.size (flipK PL j) ∧ Row 5 wr g T ∧ Below w5.heap.size w5 wr) (fun i _ => k - (intOf i).toNat)
  case atStart => exact ⟨0, Nat.zero_le _, rfl, by simpa [flipK] using hR7, hT7, hb57⟩
  case round =>
    obtain ⟨j, hj, rfl, hR, hT, hb⟩ := hrel
    clear hR7 hT7 hb57
    by_cases hlt : j < k
    · have hjl : j < PL.length := by rw [HPl.out]; exact hlt
      have hcell := hR.cell j (by rw [flipK_length]; exact hjl)
      rw [flipK_here PL j hjl] at hcell
      have hfz := hR.free j
      obtain ⟨p0, p1⟩ := getD_rng ((HSUB.out w5 hX5).1.rng) j hjl
      have hset := fun y => hR.set j y
      have hfs := flipK_set PL j hjl
      have hTo := fun v => hT.other (Ne.symm (Nat.ne_of_lt hg)) j v
      have hbs := fun v => hb.setCell (p := ⟨w5.heap.size, j, none⟩) (Nat.le_refl _) v
      obtain ⟨x, hx⟩ : ∃ x, PL.getD j 0 = x := ⟨_, rfl⟩
      rw [hx] at hcell p0 p1 hfs
      have hxor := xor255 x p0 p1
      have HR1 : Hid (Row 5 (wr.setCell ⟨w5.heap.size, j, none⟩ (.int .u8 (255 - x))) w5.heap.size (flipK PL (j + 1))) := by have := hset (255 - x); rwa [hfs] at this
      have HT1 : Hid (Row 5 (wr.setCell ⟨w5.heap.size, j, none⟩ (.int .u8 (255 - x))) g T) := hTo _
      have HB1 : Hid (Below w5.heap.size w5 (wr.setCell ⟨w5.heap.size, j, none⟩ (.int .u8 (255 - x)))) := hbs _
      clear hset hfs hTo hbs hR hT hb hx hjl
      go_wp2
      go_roundw
      case rel => exact ⟨j + 1, by omega, by go_num, HR1.out, HT1.out, HB1.out⟩
      case measure => simp [intOf]; omega
    · have hjk : j = k := by omega
      subst hjk
      go_wp2
      have hRall : Row 5 wr w5.heap.size (flipK PL PL.length) := by rw [HPl.out]; exact hR
      clear hR
      go_loopw [25, 26] (fun s i wq => ∃ m : Nat, m ≤ j ∧ s = .bool true ∧ i = .int .i64 m ∧ Row 5 wq w5.heap.size (flipK PL PL.length) ∧ Row 5 wq g T ∧ Below w5.heap.size w5 wq) (fun _ i _ => j - (intOf i).toNat)
      case atStart => exact ⟨0, Nat.zero_le _, rfl, rfl, hRall, hT, hb⟩
      case round =>
        rename_i wq _
        obtain ⟨m, hm, rfl, rfl, hR2, hT2, hb2⟩ := hrel
        clear hRall hT hb
        by_cases hlt2 : m < j
        · have hml : m < PL.length := by rw [HPl.out]; exact hlt2
          have hc1 := hR2.cell m (by rw [flipK_length]; exact hml)
          rw [flipK_all PL m hml] at hc1
          have hq := (HSUB.out _ (hX5.stays hb2)).1
          obtain ⟨p0, p1⟩ := getD_rng hq.rng m hml
          obtain ⟨b, off, ha, hc⟩ := hq.cell (by omega)
          have hc2 := hc m hml
          have hix : ∀ w' : World, (Instr.indexAt 22 (.slice a j c) (.int .i64 m)).run Try.prog w' = .ok (.pointer (some ⟨b, off + m, none⟩)) w' := fun w' => by
            rw [ha]; exact index_run 22 5 Try.underlying22 Try.size5 Try.elem22 b off j c .i64 m hlt2 w'
          obtain ⟨x, hx⟩ : ∃ x, PL.getD m 0 = x := ⟨_, rfl⟩
          rw [hx] at hc1 hc2 p0 p1
          have hxor : bits .xor .u8 (255 - x) 255 = x := by rw [xor255 (255 - x) (by omega) (by omega)]; omega
          clear hc ha hq hx hml
          go_wp2
          go_quiet (fail)
          go_wp2
          go_roundw
          case rel => exact ⟨m + 1, by omega, by simp, by go_num, hR2, hT2, below_drewN hb2 _⟩
          case measure => simp [intOf]; omega
        · have hrT := (HSUB.out _ hX5).2.rng
          have HRT : Hid (∀ y ∈ T, 0 ≤ y ∧ y ≤ 255) := hrT
          have hTm : T.length ≤ 300 := by have := HTl.out; omega
          clear hrT
          go_wp2_with (go_at_call 8; go_must (refine (alive_any _).mono ?_); rintro e w9 ⟨rfl, hb9⟩; have hbz := below_then hb2 hb9; have hXz := hX5.stays hbz; have q1 := conv9 (h25.stays hbz) _ rfl; have q2 := conv9 (h35.stays hbz) _ rfl; have q3 := conv9 (h45.stays hbz) _ rfl; have q4 := conv9 (hB5.stays hbz) _ rfl; have q5 := conv9 hXz _ rfl; have q6 := conv9 (hO5.stays hbz) _ rfl; have q7 := conv9 (HSUB.out _ hXz).2 (xs.length - j) HTl.out; have hTz := (hT2.stays hb9).bs HRT.out (by unfold maxLen; omega); have q8 := tail_conv HTl.out hTz)
          go_ret
          exact ⟨rfl, below_then hall5.out hbz⟩

set_option maxRecDepth 100000 in
set_option maxHeartbeats 1000000 in
theorem takelaw_err (a : Option Addr) (c : Nat) (xs : List Int) (n : Int) (z : Nat) (hz : bytesL xs n = ([], [], z)) (w : World) (hX : Bs w a c xs) (hx : xs.length ≤ 300) :
    Calls Try.prog 4 #[.slice a xs.length c, .int .i64 n] w fun e w' => e = .returned (.bool true) ∧ Below w.heap.size w w' := by
  obtain ⟨i0, hi, hz0, hz1, hz2⟩ := info_parts Try.info5
  have h1 := fun (b : Option Addr) d u hb => take_any b d xs u hb (by omega)
  have h2 := fun u hb => rtake_any a c xs u hb (by omega)
  have h3 := fun (b : Option Addr) d u hb => take32_any b d xs u hb (by omega)
  have h4 := fun u hb => rtake32_any a c xs u hb (by omega)
  have h5 := fun (b : Option Addr) d u hb => takeBytes_any b d xs n u hb (by omega)
  have h6 := fun u hb => rtakeBytes_any a c xs n u hb (by omega)
  obtain ⟨⟨n1, l1, z1⟩, hr1⟩ : ∃ r, takeL xs = r := ⟨_, rfl⟩
  obtain ⟨⟨n2, l2, z2⟩, hr2⟩ : ∃ r, take32L xs = r := ⟨_, rfl⟩
  rw [hr1] at h1 h2
  rw [hr2] at h3 h4
  rw [hz] at h5 h6
  simp only at h1 h2 h3 h4
  have H1 : Hid _ := h1
  have H2 : Hid _ := h2
  have H3 : Hid _ := h3
  have H4 : Hid _ := h4
  have H5 : Hid _ := h5
  have H6 : Hid _ := h6
  have HRx : Hid (∀ y ∈ xs, 0 ≤ y ∧ y ≤ 255) := hX.rng
  clear h1 h2 h3 h4 h5 h6 hr1 hr2 hz
  go_enter Try.func4, Try.ntmps4
  go_wp2_with (first
    | (at_builtin; go_must (refine wpList_append_bytes (w0 := w) (by rfl) (.tmp 31) (.tmp 32) 22 (by rfl) w.heap.size 5 i0 Try.underlying22 hi hz0 hz1 hz2 _ [] (by rfl) (World.ownsRow_made w #[] 0 (Nat.le_refl _) (by decide) rfl) a xs.length c xs (by rfl) rfl (hX.stays ((Below.refl _ _).alloc (Nat.le_refl _) _)) (by simp; omega) (by simp) ((Below.refl _ _).alloc (Nat.le_refl _) _) ?_); rw [List.nil_append]; intro v1 w1 hown1 hb1; obtain ⟨a1, c1, hv1, hB1⟩ := Bs.of_owns hown1 HRx.out; rw [hv1])
    | (go_at_call 15; go_must (refine Calls.mono (H1.out a1 c1 w1 hB1) ?_); rintro e w2 ⟨a2, c2, rfl, hB2, hb2⟩)
    | (go_at_call 16; go_must (refine Calls.mono (H2.out w2 ((hX.stays hb1).stays hb2)) ?_); rintro e w3 ⟨a3, c3, rfl, hB3, hb3⟩)
    | (go_at_call 17; go_must (refine Calls.mono (H3.out a1 c1 w3 ((hB1.stays hb2).stays hb3)) ?_); rintro e w4 ⟨a4, c4, rfl, hB4, hb4⟩)
    | (go_at_call 18; go_must (refine Calls.mono (H4.out w4 ((((hX.stays hb1).stays hb2).stays hb3).stays hb4)) ?_); rintro e w5 ⟨a5, c5, rfl, hB5, hb5⟩)
    | (go_at_call 19; go_must (refine Calls.mono (H5.out a1 c1 w5 ((((hB1.stays hb2).stays hb3).stays hb4).stays hb5)) ?_); rintro e w6 ⟨a6, c6, a7, c7, rfl, hB6, hB7, hb6⟩)
    | (go_at_call 20; go_must (refine Calls.mono (H6.out w6 ((((((hX.stays hb1).stays hb2).stays hb3).stays hb4).stays hb5).stays hb6)) ?_); rintro e w7 ⟨a8, c8, a9, c9, rfl, hB8, hB9, hb7⟩))
  have hall5 : Hid (Below w.heap.size w w5) := below_then (below_then (below_then (below_then hb1 hb2) hb3) hb4) hb5
  have hX5 := hX.stays hall5.out
  have hO5 := (((hB1.stays hb2).stays hb3).stays hb4).stays hb5
  have h25 := ((hB2.stays hb3).stays hb4).stays hb5
  have h35 := (hB3.stays hb4).stays hb5
  have h45 := hB4.stays hb5
  have hb57 := below_then hb6 hb7
  have hB77 := hB7.stays hb7
  clear H1 H2 H3 H4 H5 H6 HRx hX hB1 hB2 hB3 hB4 hb1 hb2 hb3 hb4 hb5 hb6 hb7 hown1 hv1 hi hz0 hz1 hz2 hB6 hB7 hB8
  go_loop [24] (fun i => i = .int .i64 0) (fun _ => 0)
  case atStart => rfl
  case round =>
    subst hrel
    go_wp2
    go_loop [25, 26] (fun s i => s = .bool true ∧ i = .int .i64 0) (fun _ _ => 0)
    case atStart => exact ⟨rfl, rfl⟩
    case round =>
      obtain ⟨rfl, rfl⟩ := hrel
      go_wp2_with (go_at_call 8; go_must (refine (alive_any _).mono ?_); rintro e w9 ⟨rfl, hb9⟩; have hbz := below_then hb57 hb9; have q1 := conv9 (h25.stays hbz) _ rfl; have q2 := conv9 (h35.stays hbz) _ rfl; have q3 := conv9 (h45.stays hbz) _ rfl; have q4 := conv9 (hB5.stays hbz) _ rfl; have q5 := conv9 (hX5.stays hbz) _ rfl; have q6 := conv9 (hO5.stays hbz) _ rfl; have q7 := conv9 (hB77.stays hb9) 0 rfl; have q8 := conv9 (hB9.stays hb9) 0 rfl)
      go_ret
      exact ⟨rfl, below_then hall5.out hbz⟩

theorem takelaw_walk (a : Option Addr) (c : Nat) (xs : List Int) (n : Int) (w : World) (hX : Bs w a c xs) :
    Calls Try.prog 4 #[.slice a xs.length c, .int .i64 n] w fun e w' => e = .returned (.bool true) ∧ Below w.heap.size w w' := by
  by_cases h : 300 < xs.length
  · exact takelaw_great a c _ n w h
  · by_cases h0 : n < 0
    · exact takelaw_err a c xs n 1 (by unfold bytesL; rw [if_pos h0]) w hX (by omega)
    · obtain ⟨k, rfl⟩ : ∃ k : Nat, n = k := ⟨n.toNat, by omega⟩
      by_cases hk : k ≤ xs.length
      · exact takelaw_ok a c xs k hk w hX (by omega)
      · exact takelaw_err a c xs k 2 (by unfold bytesL cutL; rw [if_neg h0, Int.toNat_natCast, if_neg hk]) w hX (by omega)
end Go.Proofs.Ytiofpkkbejnjcaa
