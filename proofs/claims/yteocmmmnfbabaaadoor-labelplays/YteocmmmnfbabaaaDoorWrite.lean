/-
  Package sha: a hash that goes on, and bytes that are written to it.
-/
import Derived.Test.YteocmmmnfbabaaaDoorPadding
import Derived.Test.YteocmmmnfbabaaaDoorArr2
import Derived.Deep.Cut
import Derived.BigRegion
import Derived.Deep.RegionWith
import Derived.Deep.CutRange
namespace Go.Proofs.YteocmmmnfbabaaaDoor
set_option linter.unusedSimpArgs false
set_option linter.unusedVariables false
open Go.RowKit

theorem splice_mid (A B C ys : List Value) (r n : Nat) (off : Nat) (ho : off = A.length + r) (hn : ys.length = n) (hr : r + n ≤ B.length) : splice (A ++ B ++ C) off ys = A ++ (B.take r ++ (ys ++ B.drop (r + n))) ++ C := by
  subst ho hn
  unfold splice
  simp only [List.append_assoc]
  rw [List.take_append, List.take_of_length_le (by omega), Nat.add_sub_cancel_left, List.take_append_of_le_length (by omega), Nat.add_assoc, List.drop_append, List.drop_eq_nil_of_le (by omega), Nat.add_sub_cancel_left, List.drop_append_of_le_length (by omega)]
  simp

/-- The cells of a hash. -/
def hashCells (v : S8) (tail : List Int) (n : Nat) : List Value := v.val ++ tail.map (Value.int .u8) ++ [.int .u64 (n : Int)]

theorem val_length (v : S8) : v.val.length = 8 := rfl
theorem hashCells_length (v : S8) (tail : List Int) (n : Nat) (h : tail.length = 64) : (hashCells v tail n).length = 73 := by simp [hashCells, h, val_length]
theorem hashCells_size (v : S8) (tail : List Int) (n : Nat) (h : tail.length = 64) : (hashCells v tail n)[72]? = some (.int .u64 (n : Int)) := by
  unfold hashCells
  rw [List.getElem?_append_right (by simp [h, val_length])]
  simp [h, val_length]

/-- The block b is a hash behind the bytes xs. -/
def HashAt (w : World) (b : Nat) (xs : List Int) : Prop :=
  ∃ (v : S8) (tail : List Int), Blk 127 w b (hashCells v tail xs.length) ∧ v.Ok ∧ tail.length = 64 ∧ (∀ x ∈ tail, 0 ≤ x ∧ x ≤ 255) ∧ tail.take (xs.length % 64) = xs.drop (xs.length / 64 * 64) ∧ (xs ≠ [] → v = hashed xs)

/-- A slice's length. -/
def lenOf : Value → Nat
  | .slice _ n _ => n
  | _ => 0

/-- The same, its numbers being right in any case. -/
def HashSt (w : World) (b : Nat) (xs : List Int) : Prop := ∃ (v : S8) (tail : List Int), Blk 127 w b (hashCells v tail xs.length) ∧ St v tail xs

theorem HashSt.at {w : World} {b : Nat} {xs : List Int} (h : HashSt w b xs) : HashAt w b xs := by
  obtain ⟨v, tail, h1, h2⟩ := h
  exact ⟨v, tail, h1, h2.num ▸ hashed_ok _, h2.len, h2.rng, h2.cut, fun _ => h2.num⟩

theorem hashCells_put (v : S8) (tail ys : List Int) (n r k : Nat) (h : tail.length = 64) (hk : ys.length = k) (hr : r + k ≤ 64) : splice (hashCells v tail n) (8 + r) (ys.map (Value.int .u8)) = hashCells v (laid tail r ys) n := by
  unfold hashCells
  rw [splice_mid v.val (tail.map (Value.int .u8)) [.int .u64 (n : Int)] (ys.map (Value.int .u8)) r k (8 + r) (by rw [val_length]) (by simpa using hk) (by simpa [h] using hr)]
  simp [laid, hk, List.map_take, List.map_drop]

theorem hashCells_count (v : S8) (tail : List Int) (n m : Nat) (h : tail.length = 64) : (hashCells v tail n).set 72 (.int .u64 (m : Int)) = hashCells v tail m := by
  unfold hashCells
  rw [List.set_append_right _ _ (by simp [h, val_length])]
  simp [h, val_length]

theorem hashCells_first (v : S8) (tail : List Int) (n : Nat) (u : S8) : hashCells u tail n = (hashCells v tail n).take 0 ++ u.val ++ (hashCells v tail n).drop (0 + 8) := by
  unfold hashCells
  simp only [List.take_zero, List.nil_append, List.append_assoc]
  rw [Nat.zero_add, List.drop_append_of_le_length (by rw [val_length]; omega), List.drop_eq_nil_of_le (by rw [val_length]; omega)]
  rfl

theorem write_next {w wr w4 : World} {b j n m M : Nat} {xs ys D R T : List Int} {a' a2 : Option Addr} {c' c2 : Nat} {v' : S8} (hD : D = xs ++ ys.take j) (hR : R = ys.drop j) (hj : j ≤ ys.length) (hM : M = R.length) (ln1 : n ≤ R.length)
    (hBr : Bs wr a' c' R) (hstay2 : ∀ u, Bs u a' c' R → Bs u a2 c2 (R.drop n)) (hin2 : ∀ x', a2 = some x' → ∃ x, a' = some x ∧ x'.block = x.block) (hner : R ≠ [] → ∀ x, a' = some x → x.block ≠ b)
    (hbut : But b w wr) (h4 : But b wr w4) (hT : Tab .u32 wr 1 (ints stepNums)) (hb1 : b ≠ 1) (hblk : Blk 127 w4 b (hashCells v' T m)) (hm : m = D.length + n) (hS : St v' T (D ++ R.take n)) :
    ∃ (j : Nat) (a' : Option Addr) (c' : Nat), j ≤ ys.length ∧ Value.slice a2 (M - n) c2 = .slice a' (ys.drop j).length c' ∧ Bs w4 a' c' (ys.drop j) ∧ (ys.drop j ≠ [] → ∀ x, a' = some x → x.block ≠ b) ∧ HashSt w4 b (xs ++ ys.take j) ∧ But b w w4 ∧ Tab .u32 w4 1 (ints stepNums) := by
  have hd : R.drop n = ys.drop (j + n) := by rw [hR, List.drop_drop]
  have ht : D ++ R.take n = xs ++ ys.take (j + n) := by rw [hD, hR, List.append_assoc, List.take_add]
  have hRl : R.length = ys.length - j := by rw [hR]; simp
  have hne2 : ys.drop (j + n) ≠ [] → ∀ x, a2 = some x → x.block ≠ b := fun h0 x' hx' => by
    obtain ⟨x, hx, he⟩ := hin2 x' hx'
    rw [he]
    refine hner (fun hR0 => h0 ?_) x hx
    rw [← hd, hR0, List.drop_nil]
  refine ⟨j + n, a2, c2, by omega, by rw [hM, ← hd, List.length_drop], ?_, hne2, ⟨v', T, ?_, ht ▸ hS⟩, hbut.trans h4, hT.but h4 (Ne.symm hb1)⟩
  · have h5 := (hstay2 _ hBr)
    rw [hd] at h5
    exact h5.but h4 hne2
  · rw [← ht, List.length_append, List.length_take, Nat.min_eq_left ln1, ← hm]; exact hblk

set_option maxRecDepth 100000 in
set_option maxHeartbeats 4000000 in
theorem write_run (b : Nat) (xs : List Int) (a : Option Addr) (c : Nat) (ys : List Int) (w : World) (hH : HashAt w b xs) (hB : Bs w a c ys) (hne : ys ≠ [] → ∀ x, a = some x → x.block ≠ b) (hlen : xs.length + ys.length < 1152921504606846976)
    (hT : Tab .u32 w 1 (ints stepNums)) (hF : Tab .u32 w 0 (ints firsts8.list)) (hb1 : b ≠ 1) (hb2 : b ≠ 0) :
    Calls Tryd.prog 73 #[.pointer (some ⟨b, 0, none⟩), .slice a ys.length c] w fun e w' => e = .returned (.tuple #[]) ∧ HashSt w' b (xs ++ ys) ∧ But b w w' := by
  obtain ⟨v, tail, hblk, hok, htl, htr, hcut, hnum⟩ := hH
  have hsz : w.cell? ⟨b, 72, none⟩ = some (.int .u64 (xs.length : Int)) := by rw [hblk.cell]; exact hashCells_size _ _ _ htl
  obtain ⟨n0, hn0⟩ : ∃ n, n = xs.length := ⟨_, rfl⟩
  rw [← hn0] at hsz
  have hblk0 := hblk
  rw [← hn0] at hblk
  have HN : Hid (n0 = xs.length) := hn0
  clear hn0
  go_enter Tryd.func73, Tryd.ntmps73
  go_upto_if 11 with fail
  go_cut [12] from 10 to 15 (fun _ wc => HashSt wc b xs ∧ But b w wc)
  case first =>
    by_cases h0 : n0 = 0
    · have hx0 : xs = [] := List.eq_nil_of_length_eq_zero (HN.out ▸ h0)
      have e0 : ((n0 : Int) == 0) = true := by simp [h0]
      have fl : (ints firsts8.list).length = 8 := rfl
      have f1 : ∀ v ∈ firsts8.val, v.oneCell' = true := int_oneCell _ _
      have HX : Hid (xs = []) := hx0
      clear hx0
      go_wp2_with (first
        | (refine wpList_load_tab (by rfl) (.global 0) 107 (by rfl) 0 8 (by rfl) (isAgg_array Tryd.underlying107) (sizeOf_run (by kernel_rfl)) hF fl ?_)
        | (refine wpList_store_blk (by rfl) (.tmp 15) (.tmp 13) 107 (by rfl) b 0 8 (by rfl) firsts8.val (by rfl) (sizeOf_run (by kernel_rfl)) hblk rfl (by rw [hashCells_length _ _ _ htl]; omega) f1 _ (hashCells_first _ _ _ _) ?_
           intro w2 hb2 hbut2 hsz2))
      go_meet
      case rel =>
        refine ⟨⟨firsts8, tail, ?_, htl, htr, hcut, ?_⟩, hbut2⟩
        · rw [← HN.out]; exact hb2
        · rw [HX.out]; rfl
    · have hx0 : xs ≠ [] := fun h => h0 (by rw [HN.out, h]; rfl)
      have e0 : ((n0 : Int) == 0) = false := by simp [h0]
      have HX : Hid (xs ≠ []) := hx0
      clear hx0
      go_wp2
      go_meet
      case rel =>
        exact ⟨⟨v, tail, by rw [← HN.out]; exact hblk, htl, htr, hcut, hnum HX.out⟩, But.refl _ _⟩
  case rest =>
    obtain ⟨hst, hbut0⟩ := hcut
    have hBc := hB.but hbut0 hne
    have hTc := hT.but hbut0 (Ne.symm hb1)
    clear hsz hblk hblk0 hT hF hB htl htr hnum hok
    go_wp2
    go_loopw [1] (fun sl wr => ∃ (j : Nat) (a' : Option Addr) (c' : Nat), j ≤ ys.length ∧ sl = .slice a' (ys.drop j).length c' ∧ Bs wr a' c' (ys.drop j) ∧ (ys.drop j ≠ [] → ∀ x, a' = some x → x.block ≠ b) ∧ HashSt wr b (xs ++ ys.take j) ∧ But b w wr ∧ Tab .u32 wr 1 (ints stepNums)) (fun sl _ => lenOf sl)
    case atStart => exact ⟨0, a, c, by omega, by simp, by simpa using hBc, by simpa using hne, by simpa using hst, hbut0, hTc⟩
    case round =>
      rename_i hrel
      clear hBc hTc hst hbut0
      obtain ⟨j, a', c', hj, rfl, hBr, hner, ⟨v, tail, hblk, hS⟩, hbut, hT⟩ := hrel
      obtain ⟨D, hD⟩ : ∃ D, D = xs ++ ys.take j := ⟨_, rfl⟩
      obtain ⟨R, hR⟩ : ∃ R, R = ys.drop j := ⟨_, rfl⟩
      have hDl : D.length = xs.length + j := by rw [hD]; simp; omega
      have hRl : R.length = ys.length - j := by rw [hR]; simp
      rw [← hD] at hblk hS
      rw [← hR] at hBr hner ⊢
      by_cases hp : 0 < R.length
      · obtain ⟨L, hL⟩ : ∃ L, L = D.length := ⟨_, rfl⟩
        obtain ⟨r, hr⟩ : ∃ r, r = D.length % 64 := ⟨_, rfl⟩
        obtain ⟨n, hn⟩ : ∃ n, n = Nat.min R.length (64 - r) := ⟨_, rfl⟩
        have lr : r < 64 := by omega
        have ln : n ≤ R.length ∧ n ≤ 64 - r ∧ 0 < n := by rw [hn]; exact ⟨Nat.min_le_left _ _, Nat.min_le_right _ _, by rw [Nat.lt_min]; omega⟩
        have hsz : wr.cell? ⟨b, 72, none⟩ = some (.int .u64 (L : Int)) := by rw [hblk.cell, hL]; exact hashCells_size _ _ _ hS.len
        have e1 : (L : Int).tmod 64 = (r : Int) := by rw [Int.tmod_eq_emod_of_nonneg (by omega)]; omega
        have e1' : (L : Int) % 64 = (r : Int) := by omega
        obtain ⟨a2, c2, hrun2, hstay2, hin2⟩ := Bs.fromIn (P := Tryd.prog) wr a' c' R 27 5 Tryd.underlying27 (by kernel_rfl) (by kernel_rfl) n ln.1 hBr.cap
        obtain ⟨M, hM⟩ : ∃ M, M = R.length := ⟨_, rfl⟩
        have hp' : (0 : Int) < (M : Int) := by omega
        have hsl := slice_arr (P := Tryd.prog) (g := b) (off := 8) Tryd.underlying125 (by kernel_rfl) lr .u64
        have lr' : (r : Int) < 64 := by omega
        have HH : Hid (D = xs ++ ys.take j ∧ R = ys.drop j ∧ D.length = xs.length + j ∧ R.length = ys.length - j ∧ L = D.length ∧ r = D.length % 64 ∧ n = Nat.min R.length (64 - r) ∧ M = R.length) := ⟨hD, hR, hDl, hRl, hL, hr, hn, hM⟩
        have hnm : n = Nat.min M (64 - r) := by rw [hn, hM]
        have hcl := hashCells_length v tail D.length hS.len
        have ln1 : n ≤ R.length := ln.1
        have ln2 : 8 + r + n ≤ 73 := by omega
        have ln3 := ln.2.2
        have HNM : Hid (n = Nat.min M (64 - r)) := hnm
        rw [← hM] at hrun2 ⊢
        clear hnm hD hR hDl hRl hL hr hn hM hp
        have hlk : (R.take n).length = n := by rw [List.length_take, Nat.min_eq_left ln1]
        have hput := hashCells_put v tail (R.take n) D.length r n hS.len hlk (by omega)
        obtain ⟨T, hT2⟩ : ∃ T, T = laid tail r (R.take n) := ⟨_, rfl⟩
        have hTl : T.length = 64 := by rw [hT2, laid_length _ _ _ (by rw [hS.len, hlk]; omega), hS.len]
        rw [← hT2] at hput
        have HT2 : Hid (T = laid tail r (R.take n)) := hT2
        obtain ⟨m, hm⟩ : ∃ m, m = L + n := ⟨_, rfl⟩
        have hLn : (L : Int) + (n : Int) = (m : Int) := by omega
        have hmb : m < 1152921504606846976 := by have := HH.out; omega
        have HM : Hid (m = L + n) := hm
        have nb : (n : Int) ≤ 64 := by omega
        have HL : Hid (L = D.length) := HH.out.2.2.2.2.1
        have HPUT : Hid (splice (hashCells v tail D.length) (8 + r) ((R.take n).map (Value.int .u8)) = hashCells v T D.length) := hput
        have HCL : Hid ((hashCells v tail D.length).length = 73) := hcl
        have HLK : Hid ((R.take n).length = n) := hlk
        clear hT2 hm hput hcl hlk
        by_cases h64 : r + n = 64
        · have e2 : (m : Int).tmod 64 = 0 := by rw [Int.tmod_eq_emod_of_nonneg (by omega)]; have := HH.out; omega
          have HQ : Hid (r + n = 64) := h64
          clear h64
          go_wp2
          go_still_tail 10, (by kernel_rfl)
          go_wp2_with (refine wpList_copy_blk (by rfl) (.tmp 27) (.tmp 28) 27 27 (by rfl) 5 Tryd.underlying27 (by kernel_rfl) b (8 + r) (64 - r) (64 - r) a' M c' (by rfl) (by rfl) (t := 127) (cur := hashCells v tail D.length) hblk R n (hBr.stays (Below.refl _ _).drew) ln3 HNM.out ln1 (by rw [HCL.out]; exact ln2) ?_
                       intro w3 hb3 hbut3 hsz3
                       rw [HPUT.out, ← HL.out] at hb3
                       have hc3 : w3.cell? ⟨b, 72, none⟩ = some (.int .u64 (L : Int)) := by rw [hb3.cell]; exact hashCells_size _ _ _ hTl
                       have hf3 := hb3.free 72)
          have h5 := hb3.set 72 (.int .u64 (m : Int))
          rw [hashCells_count _ _ _ _ hTl] at h5
          have h4 : But b wr (w3.setCell ⟨b, 72, none⟩ (.int .u64 (m : Int))) := ((But.refl b wr).drew.trans hbut3).setCell 72 _
          obtain ⟨w4, hw4⟩ : ∃ w4, w4 = w3.setCell ⟨b, 72, none⟩ (.int .u64 (m : Int)) := ⟨_, rfl⟩
          rw [← hw4] at h5 h4 ⊢
          clear hw4 hb3 hbut3 hsz3 hc3 hf3
          have hl1 : v.val = ((hashCells v T m).drop 0).take 8 := by rw [List.drop_zero]; unfold hashCells; rw [List.append_assoc, List.take_append_of_le_length (by rw [val_length]; omega), List.take_of_length_le (by rw [val_length]; omega)]
          have hl2 : T.map (Value.int .u8) = ((hashCells v T m).drop 8).take 64 := by
            unfold hashCells
            rw [List.append_assoc, List.drop_append, List.drop_eq_nil_of_le (by rw [val_length]; omega), val_length, Nat.sub_self, List.drop_zero, List.nil_append, List.take_append_of_le_length (by simp [hTl]), List.take_of_length_le (by simp [hTl])]
          have hl3 : (T.map (Value.int .u8)).length = 64 := by rw [List.length_map, hTl]
          have hvok : v.Ok := hS.num ▸ hashed_ok _
          have hTr : ∀ x ∈ T, 0 ≤ x ∧ x ≤ 255 := by
            rw [HT2.out]
            exact laid_rng _ _ _ hS.rng (fun x hx => hBr.rng x (List.mem_of_mem_take hx))
          have hcall := taken_run v hvok T hTl hTr w4.drew (hT.but h4.drew (Ne.symm hb1))
          refine wp_region_any (by kernel_rfl) ?_
          change wpAny _ _ _ _ _ _ _ (World.drew _)
          refine any_take 0 rfl (some 48) rfl (.pointer (some ⟨b, 0, none⟩)) (by kernel_rfl) (by kernel_rfl) (by kernel_rfl) (fun _ _ _ h => h) (Or.inl ⟨by rfl, ?_⟩) ?_
          · intro w; go_simp
          simp only [Act.put, List.setIfInBounds_toArray, List.set_cons_succ, List.set_cons_zero]
          refine any_take 1 rfl (some 49) rfl (.pointer (some ⟨b, 0, none⟩)) (by kernel_rfl) (by kernel_rfl) (by kernel_rfl) (fun _ _ _ h => h) (Or.inl ⟨by rfl, ?_⟩) ?_
          · intro w; go_simp
          simp only [Act.put, List.setIfInBounds_toArray, List.set_cons_succ, List.set_cons_zero]
          refine any_take 2 rfl (some 50) rfl (.pointer (some ⟨b, 0, none⟩)) (by kernel_rfl) (by kernel_rfl) (by kernel_rfl) (fun _ _ _ h => h) (Or.inl ⟨by rfl, ?_⟩) ?_
          · intro w; go_simp
          simp only [Act.put, List.setIfInBounds_toArray, List.set_cons_succ, List.set_cons_zero]
          refine any_take 3 rfl (some 51) rfl (.pointer (some ⟨b, 0, none⟩)) (by kernel_rfl) (by kernel_rfl) (by kernel_rfl) (fun _ _ _ h => h) (Or.inl ⟨by rfl, ?_⟩) ?_
          · intro w; go_simp
          simp only [Act.put, List.setIfInBounds_toArray, List.set_cons_succ, List.set_cons_zero]
          refine any_take 5 rfl (some 53) rfl (.pointer (some ⟨b, 0, none⟩)) (by kernel_rfl) (by kernel_rfl) (by kernel_rfl) (fun _ _ _ h => h) (Or.inl ⟨by rfl, ?_⟩) ?_
          · intro w; go_simp
          simp only [Act.put, List.setIfInBounds_toArray, List.set_cons_succ, List.set_cons_zero]
          refine any_take 6 rfl (some 54) rfl (.pointer (some ⟨b, 0, none⟩)) (by kernel_rfl) (by kernel_rfl) (by kernel_rfl) (fun _ _ _ h => h) (Or.inl ⟨by rfl, ?_⟩) ?_
          · intro w; go_simp
          simp only [Act.put, List.setIfInBounds_toArray, List.set_cons_succ, List.set_cons_zero]
          refine any_take 7 rfl (some 55) rfl (.pointer (some ⟨b, 8, none⟩)) (by kernel_rfl) (by kernel_rfl) (by kernel_rfl) (fun _ _ _ h => h) (Or.inl ⟨by rfl, ?_⟩) ?_
          · intro w; go_simp
          simp only [Act.put, List.setIfInBounds_toArray, List.set_cons_succ, List.set_cons_zero]
          refine any_loads 4 8 (by kernel_rfl) rfl rfl rfl rfl (some 52) (some 56) rfl rfl (.tmp 51) (.tmp 55) 107 125 rfl rfl b 0 8 b 8 64 rfl rfl (isAgg_array Tryd.underlying107) (sizeOf_run (by kernel_rfl)) (isAgg_array Tryd.underlying125) (sizeOf_run (by kernel_rfl)) h5.drew h5.drew v.val (T.map (Value.int .u8)) hl1 rfl hl2 hl3 ?_ ?_
          · simp only [Act.put, List.setIfInBounds_toArray, List.set_cons_succ, List.set_cons_zero]
            refine any_load 8 (by kernel_rfl) rfl rfl (some 56) rfl (.tmp 55) 125 rfl b 8 64 rfl (isAgg_array Tryd.underlying125) (sizeOf_run (by kernel_rfl)) h5.drew (T.map (Value.int .u8)) hl2 hl3 ?_
            simp only [Act.put, List.setIfInBounds_toArray, List.set_cons_succ, List.set_cons_zero]
            refine any_call 9 (by kernel_rfl) rfl rfl (some 57) rfl 76 #[.agg v.val.toArray, .agg (T.map (Value.int .u8)).toArray] (by go_simp) hcall ?_
            rintro e w5 ⟨rfl, hb5⟩
            refine ⟨_, rfl, ?_⟩
            simp only [Act.put, List.setIfInBounds_toArray, List.set_cons_succ, List.set_cons_zero]
            refine any_take 10 rfl (some 58) rfl (.pointer (some ⟨b, 0, none⟩)) (by kernel_rfl) (by kernel_rfl) (by kernel_rfl) (fun _ _ _ h => h) (Or.inl ⟨by rfl, fun w => by go_simp⟩) ?_
            simp only [Act.put, List.setIfInBounds_toArray, List.set_cons_succ, List.set_cons_zero]
            refine any_take 11 rfl (some 59) rfl (.pointer (some ⟨b, 0, none⟩)) (by kernel_rfl) (by kernel_rfl) (by kernel_rfl) (fun _ _ _ h => h) (Or.inl ⟨by rfl, fun w => by go_simp⟩) ?_
            simp only [Act.put, List.setIfInBounds_toArray, List.set_cons_succ, List.set_cons_zero]
            refine any_store 12 (by kernel_rfl) rfl rfl none rfl (.tmp 59) (.tmp 57) 107 rfl b 0 8 rfl (takenOf v T).val rfl (sizeOf_run (by kernel_rfl)) (h5.drew.stays hb5) rfl (by rw [hashCells_length _ _ _ hTl]; omega) (int_oneCell _ _) _ (hashCells_first _ _ _ _) ?_
            intro w6 hb6 hbut6 hsz6
            refine wpAny_done (by kernel_rfl) ?_ _
            simp only [Act.put]
            go_wp2
            go_roundw
            case rel =>
              have hh := HH.out
              refine write_next hh.1 hh.2.1 hj hh.2.2.2.2.2.2.2 ln1 hBr hstay2 hin2 hner hbut (h4.drew.trans ((But.of_below hb5).trans hbut6)) hT hb1 hb6 (by rw [HM.out, HL.out]) ?_ (T := T) (m := m) (v' := takenOf v T)
              rw [HT2.out, hh.2.2.2.2.2.1]
              refine hS.full (fun x hx => hBr.rng x (List.mem_of_mem_take hx)) ?_
              have := HQ.out
              have := HLK.out
              omega
            case measure =>
              have hm1 : M - n < M := Nat.sub_lt (by omega) ln3
              exact hm1
          · simp only [Act.put, List.setIfInBounds_toArray, List.set_cons_succ, List.set_cons_zero]
            refine any_load 4 (by kernel_rfl) rfl rfl (some 52) rfl (.tmp 51) 107 rfl b 0 8 rfl (isAgg_array Tryd.underlying107) (sizeOf_run (by kernel_rfl)) h5.drew v.val hl1 rfl ?_
            simp only [Act.put, List.setIfInBounds_toArray, List.set_cons_succ, List.set_cons_zero]
            refine any_call 9 (by kernel_rfl) rfl rfl (some 57) rfl 76 #[.agg v.val.toArray, .agg (T.map (Value.int .u8)).toArray] (by go_simp) hcall ?_
            rintro e w5 ⟨rfl, hb5⟩
            refine ⟨_, rfl, ?_⟩
            simp only [Act.put, List.setIfInBounds_toArray, List.set_cons_succ, List.set_cons_zero]
            refine any_take 10 rfl (some 58) rfl (.pointer (some ⟨b, 0, none⟩)) (by kernel_rfl) (by kernel_rfl) (by kernel_rfl) (fun _ _ _ h => h) (Or.inl ⟨by rfl, fun w => by go_simp⟩) ?_
            simp only [Act.put, List.setIfInBounds_toArray, List.set_cons_succ, List.set_cons_zero]
            refine any_take 11 rfl (some 59) rfl (.pointer (some ⟨b, 0, none⟩)) (by kernel_rfl) (by kernel_rfl) (by kernel_rfl) (fun _ _ _ h => h) (Or.inl ⟨by rfl, fun w => by go_simp⟩) ?_
            simp only [Act.put, List.setIfInBounds_toArray, List.set_cons_succ, List.set_cons_zero]
            refine any_store 12 (by kernel_rfl) rfl rfl none rfl (.tmp 59) (.tmp 57) 107 rfl b 0 8 rfl (takenOf v T).val rfl (sizeOf_run (by kernel_rfl)) (h5.drew.stays hb5) rfl (by rw [hashCells_length _ _ _ hTl]; omega) (int_oneCell _ _) _ (hashCells_first _ _ _ _) ?_
            intro w6 hb6 hbut6 hsz6
            refine wpAny_done (by kernel_rfl) ?_ _
            simp only [Act.put]
            go_wp2
            go_roundw
            case rel =>
              have hh := HH.out
              refine write_next hh.1 hh.2.1 hj hh.2.2.2.2.2.2.2 ln1 hBr hstay2 hin2 hner hbut (h4.drew.trans ((But.of_below hb5).trans hbut6)) hT hb1 hb6 (by rw [HM.out, HL.out]) ?_ (T := T) (m := m) (v' := takenOf v T)
              rw [HT2.out, hh.2.2.2.2.2.1]
              refine hS.full (fun x hx => hBr.rng x (List.mem_of_mem_take hx)) ?_
              have := HQ.out
              have := HLK.out
              omega
            case measure =>
              have hm1 : M - n < M := Nat.sub_lt (by omega) ln3
              exact hm1
        · obtain ⟨q, hq⟩ : ∃ q, q = r + n := ⟨_, rfl⟩
          have e2 : (m : Int).tmod 64 = (q : Int) := by rw [Int.tmod_eq_emod_of_nonneg (by omega)]; have := HH.out; omega
          have e3 : ((q : Int) == 0) = false := by simp; omega
          have HQ : Hid (r + n ≠ 64) := h64
          clear hq h64
          go_wp2
          go_still_tail 10, (by kernel_rfl)
          go_wp2_with (refine wpList_copy_blk (by rfl) (.tmp 27) (.tmp 28) 27 27 (by rfl) 5 Tryd.underlying27 (by kernel_rfl) b (8 + r) (64 - r) (64 - r) a' M c' (by rfl) (by rfl) (t := 127) (cur := hashCells v tail D.length) hblk R n (hBr.stays (Below.refl _ _).drew) ln3 HNM.out ln1 (by rw [HCL.out]; exact ln2) ?_
                       intro w3 hb3 hbut3 hsz3
                       rw [HPUT.out, ← HL.out] at hb3
                       have hc3 : w3.cell? ⟨b, 72, none⟩ = some (.int .u64 (L : Int)) := by rw [hb3.cell]; exact hashCells_size _ _ _ hTl
                       have hf3 := hb3.free 72)
          go_roundw
          case rel =>
            have hh := HH.out
            refine write_next hh.1 hh.2.1 hj hh.2.2.2.2.2.2.2 ln1 hBr hstay2 hin2 hner hbut (((But.refl b wr).drew.trans hbut3).setCell 72 _) hT hb1 ?_ (by rw [HM.out, HL.out]) ?_ (T := T) (m := m) (v' := v)
            · have h5 := hb3.set 72 (.int .u64 (m : Int))
              rw [hashCells_count _ _ _ _ hTl] at h5
              exact h5
            · rw [HT2.out, hh.2.2.2.2.2.1]
              refine hS.part (fun x hx => hBr.rng x (List.mem_of_mem_take hx)) ?_
              have := HQ.out
              have := HLK.out
              omega
          case measure => simp only [lenOf]; omega
      · have hR0 : R.length = 0 := by omega
        have hfin : HashSt wr b (xs ++ ys) := by
          have h1 : ys.take j = ys := List.take_of_length_le (by omega)
          rw [h1] at hD
          exact ⟨v, tail, hD ▸ hblk, hD ▸ hS⟩
        have hz : ¬ ((0 : Int) < (R.length : Int)) := by omega
        clear hD hR hDl hRl
        go_wp2
        go_end0
        exact ⟨rfl, hfin, hbut⟩
end Go.Proofs.YteocmmmnfbabaaaDoor
