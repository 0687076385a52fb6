/-
 The document's answer for package sha: the padded bytes.
-/
import Derived.Test.YthbldjnpnligpaaDoorB18
import Derived.Test.YthbldjnpnligpaaDoorB06
import Derived.Test.YthbldjnpnligpaaDoorB03
import Derived.Deep.Cut
import Derived.BigRegion
import Derived.Deep.RegionWith
import Derived.Deep.CutRange
namespace Go.Proofs.YthbldjnpnligpaaDoor
set_option linter.unusedSimpArgs false
set_option linter.unusedVariables false
set_option maxRecDepth 100000
open Go.RowKit
def lenV : Value → Nat
 | .slice _ n _ => n
 | _ => 0
theorem pad_split (xs : List Int) : xs ++ padOf xs.length = ((xs ++ [128]) ++ List.replicate ((119 - xs.length % 64) % 64) 0) ++ lastBytes xs.length := by
 simp [padOf, lastBytes, padByte]
theorem lastBytes_take (n k : Nat) (hk : k < 8) : (lastBytes n).take (k + 1) = (lastBytes n).take k ++ [((padByte n (7 - k) : Nat) : Int)] := by
 rw [List.take_add_one]
 congr 1
 simp [lastBytes, hk]
theorem lastBytes_rng (n : Nat) : ∀ x ∈ lastBytes n, 0 ≤ x ∧ x ≤ 255 := by
 intro x hx
 obtain ⟨i, _, rfl⟩ := List.mem_map.1 hx
 have := Nat.mod_lt (n * 8 / 2 ^ (8 * (7 - i))) (show 0 < 256 by decide)
 unfold padByte
 omega
theorem owns_ge {w : World} {base : Nat} {e : TypeId} {a : Option Addr} {m c n : Nat} {xs : List Value} (h : w.ownsRow base e 1 (.slice a m c) n xs) (x : Addr) (hx : a = some x) : base ≤ x.block := by
 subst hx
 rcases h.2 with ⟨h1, _⟩ | ⟨g, cap, cur, h1, h2, _⟩
 · cases h1
 · cases h1; exact h2
set_option maxRecDepth 100000 in
set_option maxHeartbeats 2000000 in
theorem padded_run (a : Option Addr) (c : Nat) (xs : List Int) (w : World) (hB : Bs w a c xs) (hlen : xs.length < 1000000000000) :
 Calls Tryd.prog 151 #[.slice a xs.length c] w fun e w' => ∃ a' c', e = .returned (.slice a' (xs ++ padOf xs.length).length c') ∧ Bs w' a' c' (xs ++ padOf xs.length) ∧ (∀ x, a' = some x → w.heap.size ≤ x.block) ∧ Below w.heap.size w w' := by
 obtain ⟨i0, hi, hz0, hz1, hz2⟩ : ∃ i, Tryd.prog.info? 5 = some i ∧ i.zero = some (.int .u8 0) ∧ i.size = 1 ∧ i.bytes = 1 := ⟨_, rfl, rfl, rfl, rfl⟩
 obtain ⟨N, hN⟩ : ∃ N, N = xs.length := ⟨_, rfl⟩
 have hlN : N < 1000000000000 := by omega
 have HN : Hid (N = xs.length) := hN
 rw [← hN]
 have hB128 : ∀ u : World, Bs (u.alloc (.cells #[.int .u8 128] 5)) (some ⟨u.heap.size, 0, none⟩) 1 [128] := fun u => Bs.one u 128 ⟨by decide, by decide⟩ _
 have hB0 : ∀ u : World, Bs (u.alloc (.cells #[.int .u8 0] 5)) (some ⟨u.heap.size, 0, none⟩) 1 [0] := fun u => Bs.one u 0 ⟨by decide, by decide⟩ _
 obtain ⟨Y, hY⟩ : ∃ Y, Y = xs ++ [128] := ⟨_, rfl⟩
 have hYl : Y.length = N + 1 := by rw [hY, hN]; simp
 have HY : Hid (Y = xs ++ [128]) := hY
 clear hN hY
 go_enter Tryd.func151, Tryd.ntmps151
 go_wp2_with (at_builtin; first
  | (refine wpList_append_bytes (w0 := w) (by rfl) (.tmp 6) (.tmp 7) 43 (by rfl) w.heap.size 5 i0 Tryd.underlying43 hi hz0 hz1 hz2 _ [] (by rfl) (World.ownsRow_made w #[] 0 (Nat.le_refl _) (by decide) rfl) a N c xs (by rfl) HN.out (hB.stays ((Below.refl _ _).alloc (Nat.le_refl _) _)) (by have := HN.out; simp; omega) (by simp) ((Below.refl _ _).alloc (Nat.le_refl _) _) ?_
     rw [List.nil_append]
     intro v1 w1 hown1 hb1
     have hs1 := hb1.size)
  | (refine wpList_append_bytes (w0 := w) (by rfl) (.tmp 9) (.tmp 10) 43 (by rfl) w.heap.size 5 i0 Tryd.underlying43 hi hz0 hz1 hz2 _ xs (by rfl) (hown1.alloc _) (some ⟨w1.heap.size, 0, none⟩) 1 1 [128] (by rfl) (by rfl) (hB128 _) (by have := HN.out; simp; omega) (by simp; omega) (hb1.alloc hs1 _) ?_
     rw [← HY.out]
     intro v2 w2 hown2 hb2
     have hs2 := hb2.size))
 obtain ⟨nz, hnz⟩ : ∃ z, z = (119 - N % 64) % 64 := ⟨_, rfl⟩
 have lz : nz < 64 := by omega
 have hYr : ∀ x ∈ Y, 0 ≤ x ∧ x ≤ 255 := by
  rw [HY.out]
  intro x hx
  rcases List.mem_append.1 hx with h | h
  · exact hB.rng x h
  · rw [List.mem_singleton.1 h]; decide
 have hzr : ∀ j, ∀ x ∈ Y ++ List.replicate j 0, 0 ≤ x ∧ x ≤ 255 := fun j x hx => by
  rcases List.mem_append.1 hx with h | h
  · exact hYr x h
  · rw [List.eq_of_mem_replicate h]; decide
 go_loopw [3] (fun v wr => ∃ j : Nat, j ≤ nz ∧ wr.ownsRow w.heap.size 5 1 v (Y ++ List.replicate j 0).length ((Y ++ List.replicate j 0).map (Value.int .u8)) ∧ Below w.heap.size w wr) (fun v _ => N + 1 + nz - lenV v)
 case atStart => exact ⟨0, by omega, by simpa using hown2, hb2⟩
 case round =>
  clear hown1 hown2 hb1 hb2 hs1 hs2
  rename_i hrel
  obtain ⟨j, hj, hown, hbel⟩ := hrel
  have hsr := hbel.size
  obtain ⟨Z, hZ⟩ : ∃ Z, Z = Y ++ List.replicate j 0 := ⟨_, rfl⟩
  have hZl : Z.length = N + 1 + j := by rw [hZ, List.length_append, hYl, List.length_replicate]
  rw [← hZ] at hown
  obtain ⟨a3, c3, rfl, hB3⟩ := Bs.of_owns hown (hZ ▸ hzr j)
  obtain ⟨M, hM⟩ : ∃ M, M = Z.length := ⟨_, rfl⟩
  by_cases hlt : j < nz
  · have e1 : ((M : Int).tmod 64 == 56) = false := by rw [Int.tmod_eq_emod_of_nonneg (by omega)]; simp; omega
    have e2 : ((M : Int) % 64 == 56) = false := by simp; omega
    have HZ : Hid (Y ++ List.replicate (j + 1) 0 = Z ++ [0]) := by unfold Hid; rw [hZ, List.replicate_succ', List.append_assoc]
    have HZl : Hid (M = N + 1 + j) := by unfold Hid; rw [hM, hZl]
    have HM : Hid (M = Z.length) := hM
    have hownM : wr.ownsRow w.heap.size 5 1 (.slice a3 M c3) Z.length (Z.map (Value.int .u8)) := by rw [hM]; exact hown
    rw [← hM]
    clear hZ hZl hM hYl hnz hown
    go_wp2_with (at_builtin; go_must (refine wpList_append_bytes (w0 := w) (by rfl) (.tmp 16) (.tmp 17) 43 (by rfl) w.heap.size 5 i0 Tryd.underlying43 hi hz0 hz1 hz2 _ Z (by rfl) (hownM.alloc _) (some ⟨wr.heap.size, 0, none⟩) 1 1 [0] (by rfl) (by rfl) (hB0 _) (by have := HZl.out; have := HM.out; simp; omega) (by simp; omega) (hbel.alloc hsr _) ?_); intro v4 w4 hown4 hb4)
    go_roundw
    case rel => exact ⟨j + 1, by omega, by rw [HZ.out]; exact hown4, hb4⟩
    case measure =>
        obtain ⟨a4, c4, rfl, _⟩ := Bs.of_owns hown4 (HZ.out ▸ hzr (j + 1))
        have := HZl.out
        have := HM.out
        simp [lenV]
        omega
  · have e1 : ((M : Int).tmod 64 != 56) = false := by rw [Int.tmod_eq_emod_of_nonneg (by omega)]; simp; omega
    have e2 : ((M : Int) % 64 != 56) = false := by simp; omega
    have hjz : j = nz := by omega
    have HP : Hid (xs ++ padOf N = Z ++ lastBytes N) := by
        unfold Hid
        have h := pad_split xs
        rw [← HN.out, ← HY.out, ← hnz, ← hjz, ← hZ] at h
        exact h
    have hZr := hZ ▸ hzr j
    have hownM : wr.ownsRow w.heap.size 5 1 (.slice a3 M c3) (Z ++ (lastBytes N).take 0).length ((Z ++ (lastBytes N).take 0).map (Value.int .u8)) := by rw [List.take_zero, List.append_nil, hM]; exact hown
    have hM2 : M < 1000000000100 := by omega
    have HM : Hid (M = Z.length) := hM
    rw [← hM]
    clear hZ hZl hM hYl hnz hown hjz
    go_wp2
    have hlr : ∀ k, ∀ x ∈ Z ++ (lastBytes N).take k, 0 ≤ x ∧ x ≤ 255 := fun k x hx => by
        rcases List.mem_append.1 hx with h | h
        · exact hZr x h
        · exact lastBytes_rng N x (List.mem_of_mem_take h)
    clear e1 e2
    go_loopw [3, 5] (fun v i wr => ∃ k : Nat, k ≤ 8 ∧ i = .int .i64 (7 - (k : Int)) ∧ wr.ownsRow w.heap.size 5 1 v (Z ++ (lastBytes N).take k).length ((Z ++ (lastBytes N).take k).map (Value.int .u8)) ∧ Below w.heap.size w wr) (fun _ i _ => (intOf i + 1).toNat)
    case atStart => exact ⟨0, by omega, rfl, hownM, hbel⟩
    case round =>
        clear hownM hbel hsr hB3
        rename_i hrel
        obtain ⟨k, hk, rfl, hown, hbel⟩ := hrel
        have hsr := hbel.size
        by_cases hlk : k < 8
        · obtain ⟨F, hF⟩ : ∃ F, F = Z ++ (lastBytes N).take k := ⟨_, rfl⟩
          have hFl : F.length ≤ M + 8 := by rw [hF, List.length_append, ← HM.out, List.length_take]; omega
          rw [← hF] at hown
          obtain ⟨q, hq⟩ : ∃ q, q = 7 - k := ⟨_, rfl⟩
          have hq7 : (7 : Int) - (k : Int) = (q : Int) := by omega
          rw [hq7]
          have lq : q < 8 := by omega
          obtain ⟨y, hy⟩ : ∃ y, y = N * 8 / 2 ^ (8 * q) := ⟨_, rfl⟩
          obtain ⟨x, hx⟩ : ∃ x, x = padByte N q := ⟨_, rfl⟩
          have e4 : (N : Int) * 8 / 2 ^ (8 * q) = (y : Int) := by
           rw [hy, Int.natCast_ediv, Int.natCast_mul, Int.natCast_pow]; rfl
          have e5 : (y : Int) % 256 = (x : Int) := by rw [hx, padByte, ← hy]; omega
          have lx : x < 256 := by rw [hx]; exact Nat.mod_lt _ (by decide)
          have HX : Hid (Z ++ (lastBytes N).take (k + 1) = F ++ [(x : Int)]) := by
           unfold Hid
           rw [lastBytes_take N k hlk, ← List.append_assoc, ← hF, ← hq, ← hx]
          have hBx : ∀ u : World, Bs (u.alloc (.cells #[.int .u8 (x : Int)] 5)) (some ⟨u.heap.size, 0, none⟩) 1 [(x : Int)] := fun u => Bs.one u x ⟨by omega, by omega⟩ _
          have HQ : Hid (q = 7 - k) := hq
          clear hF hq hx hy hq7
          go_wp2_with (at_builtin; go_must (refine wpList_append_bytes (w0 := w) (by rfl) (.tmp 27) (.tmp 34) 43 (by rfl) w.heap.size 5 i0 Tryd.underlying43 hi hz0 hz1 hz2 _ F (by rfl) (hown.alloc _) (some ⟨wr.heap.size, 0, none⟩) 1 1 [(x : Int)] (by rfl) (by rfl) (hBx _) (by simp; omega) (by simp; omega) (hbel.alloc hsr _) ?_); intro v4 w4 hown4 hb4)
          go_roundw
          case rel =>
           refine ⟨k + 1, by omega, ?_, by rw [HX.out]; exact hown4, hb4⟩
           congr 1
           have := HQ.out
           omega
          case measure => have := HQ.out; simp [intOf]; try omega
        · obtain ⟨a4, c4, rfl, hB4⟩ := Bs.of_owns hown (hlr k)
          have hge := owns_ge hown
          have e8 : Z ++ (lastBytes N).take k = xs ++ padOf N := by
           rw [HP.out, List.take_of_length_le (by simp [lastBytes]; omega)]
          rw [e8] at hB4
          obtain ⟨T, hT⟩ : ∃ T, T = (xs ++ padOf N).length := ⟨_, rfl⟩
          clear hown
          rw [e8, ← hT]
          have hneg : ¬ ((0 : Int) ≤ 7 - (k : Int)) := by omega
          have HT : Hid (T = (xs ++ padOf N).length) := hT
          clear hT e8
          go_wp2
          go_ret
          exact ⟨a4, c4, by show Ending.returned (Value.slice a4 T c4) = _; rw [HT.out]; simp [← HN.out], hB4, hge, hbel⟩
end Go.Proofs.YthbldjnpnligpaaDoor

/-
 Package sha: a hash that goes on, and bytes that are written to it.
-/

namespace Go.Proofs.YthbldjnpnligpaaDoor
set_option linter.unusedSimpArgs false
set_option linter.unusedVariables false
set_option maxRecDepth 100000
open Go.RowKit
theorem splice_mid (A B C ys : List Value) (r n : Nat) (off : Nat) (ho : off = A.length + r) (hn : ys.length = n) (hr : r + n ≤ B.length) : splice (A ++ B ++ C) off ys = A ++ (B.take r ++ (ys ++ B.drop (r + n))) ++ C := by
 subst ho hn
 unfold splice
 simp only [List.append_assoc]
 rw [List.take_append, List.take_of_length_le (by omega), Nat.add_sub_cancel_left, List.take_append_of_le_length (by omega), Nat.add_assoc, List.drop_append, List.drop_eq_nil_of_le (by omega), Nat.add_sub_cancel_left, List.drop_append_of_le_length (by omega)]
 simp
def hashCells (v : S8) (tail : List Int) (n : Nat) : List Value := v.val ++ tail.map (Value.int .u8) ++ [.int .u64 (n : Int)]
theorem val_length (v : S8) : v.val.length = 8 := rfl
theorem hashCells_length (v : S8) (tail : List Int) (n : Nat) (h : tail.length = 64) : (hashCells v tail n).length = 73 := by simp [hashCells, h, val_length]
theorem hashCells_size (v : S8) (tail : List Int) (n : Nat) (h : tail.length = 64) : (hashCells v tail n)[72]? = some (.int .u64 (n : Int)) := by
 unfold hashCells
 rw [List.getElem?_append_right (by simp [h, val_length])]
 simp [h, val_length]
def HashAt (w : World) (b : Nat) (xs : List Int) : Prop :=
 ∃ (v : S8) (tail : List Int), Blk 234 w b (hashCells v tail xs.length) ∧ v.Ok ∧ tail.length = 64 ∧ (∀ x ∈ tail, 0 ≤ x ∧ x ≤ 255) ∧ tail.take (xs.length % 64) = xs.drop (xs.length / 64 * 64) ∧ (xs ≠ [] → v = hashed xs)
def lenOf : Value → Nat
 | .slice _ n _ => n
 | _ => 0
def HashSt (w : World) (b : Nat) (xs : List Int) : Prop := ∃ (v : S8) (tail : List Int), Blk 234 w b (hashCells v tail xs.length) ∧ St v tail xs
theorem HashSt.at {w : World} {b : Nat} {xs : List Int} (h : HashSt w b xs) : HashAt w b xs := by
 obtain ⟨v, tail, h1, h2⟩ := h
 exact ⟨v, tail, h1, h2.num ▸ hashed_ok _, h2.len, h2.rng, h2.cut, fun _ => h2.num⟩
theorem hashCells_put (v : S8) (tail ys : List Int) (n r k : Nat) (h : tail.length = 64) (hk : ys.length = k) (hr : r + k ≤ 64) : splice (hashCells v tail n) (8 + r) (ys.map (Value.int .u8)) = hashCells v (laid tail r ys) n := by
 unfold hashCells
 rw [splice_mid v.val (tail.map (Value.int .u8)) [.int .u64 (n : Int)] (ys.map (Value.int .u8)) r k (8 + r) (by rw [val_length]) (by simpa using hk) (by simpa [h] using hr)]
 simp [laid, hk, List.map_take, List.map_drop]
theorem hashCells_count (v : S8) (tail : List Int) (n m : Nat) (h : tail.length = 64) : (hashCells v tail n).set 72 (.int .u64 (m : Int)) = hashCells v tail m := by
 unfold hashCells
 rw [List.set_append_right _ _ (by simp [h, val_length])]
 simp [h, val_length]
theorem hashCells_first (v : S8) (tail : List Int) (n : Nat) (u : S8) : hashCells u tail n = (hashCells v tail n).take 0 ++ u.val ++ (hashCells v tail n).drop (0 + 8) := by
 unfold hashCells
 simp only [List.take_zero, List.nil_append, List.append_assoc]
 rw [Nat.zero_add, List.drop_append_of_le_length (by rw [val_length]; omega), List.drop_eq_nil_of_le (by rw [val_length]; omega)]
 rfl
theorem write_next {w wr w4 : World} {b j n m M : Nat} {xs ys D R T : List Int} {a' a2 : Option Addr} {c' c2 : Nat} {v' : S8} (hD : D = xs ++ ys.take j) (hR : R = ys.drop j) (hj : j ≤ ys.length) (hM : M = R.length) (ln1 : n ≤ R.length)
 (hBr : Bs wr a' c' R) (hstay2 : ∀ u, Bs u a' c' R → Bs u a2 c2 (R.drop n)) (hin2 : ∀ x', a2 = some x' → ∃ x, a' = some x ∧ x'.block = x.block) (hner : R ≠ [] → ∀ x, a' = some x → x.block ≠ b)
 (hbut : But b w wr) (h4 : But b wr w4) (hT : Tab .u32 wr 1 (ints stepNums)) (hb1 : b ≠ 1) (hblk : Blk 234 w4 b (hashCells v' T m)) (hm : m = D.length + n) (hS : St v' T (D ++ R.take n)) :
 ∃ (j : Nat) (a' : Option Addr) (c' : Nat), j ≤ ys.length ∧ Value.slice a2 (M - n) c2 = .slice a' (ys.drop j).length c' ∧ Bs w4 a' c' (ys.drop j) ∧ (ys.drop j ≠ [] → ∀ x, a' = some x → x.block ≠ b) ∧ HashSt w4 b (xs ++ ys.take j) ∧ But b w w4 ∧ Tab .u32 w4 1 (ints stepNums) := by
 have hd : R.drop n = ys.drop (j + n) := by rw [hR, List.drop_drop]
 have ht : D ++ R.take n = xs ++ ys.take (j + n) := by rw [hD, hR, List.append_assoc, List.take_add]
 have hRl : R.length = ys.length - j := by rw [hR]; simp
 have hne2 : ys.drop (j + n) ≠ [] → ∀ x, a2 = some x → x.block ≠ b := fun h0 x' hx' => by
  obtain ⟨x, hx, he⟩ := hin2 x' hx'
  rw [he]
  refine hner (fun hR0 => h0 ?_) x hx
  rw [← hd, hR0, List.drop_nil]
 refine ⟨j + n, a2, c2, by omega, by rw [hM, ← hd, List.length_drop], ?_, hne2, ⟨v', T, ?_, ht ▸ hS⟩, hbut.trans h4, hT.but h4 (Ne.symm hb1)⟩
 · have h5 := (hstay2 _ hBr)
   rw [hd] at h5
   exact h5.but h4 hne2
 · rw [← ht, List.length_append, List.length_take, Nat.min_eq_left ln1, ← hm]; exact hblk
set_option maxRecDepth 100000 in
set_option maxHeartbeats 4000000 in
theorem write_run (b : Nat) (xs : List Int) (a : Option Addr) (c : Nat) (ys : List Int) (w : World) (hH : HashAt w b xs) (hB : Bs w a c ys) (hne : ys ≠ [] → ∀ x, a = some x → x.block ≠ b) (hlen : xs.length + ys.length < 1152921504606846976)
 (hT : Tab .u32 w 1 (ints stepNums)) (hF : Tab .u32 w 0 (ints firsts8.list)) (hb1 : b ≠ 1) (hb2 : b ≠ 0) :
 Calls Tryd.prog 161 #[.pointer (some ⟨b, 0, none⟩), .slice a ys.length c] w fun e w' => e = .returned (.tuple #[]) ∧ HashSt w' b (xs ++ ys) ∧ But b w w' := by
 obtain ⟨v, tail, hblk, hok, htl, htr, hcut, hnum⟩ := hH
 have hsz : w.cell? ⟨b, 72, none⟩ = some (.int .u64 (xs.length : Int)) := by rw [hblk.cell]; exact hashCells_size _ _ _ htl
 obtain ⟨n0, hn0⟩ : ∃ n, n = xs.length := ⟨_, rfl⟩
 rw [← hn0] at hsz
 have hblk0 := hblk
 rw [← hn0] at hblk
 have HN : Hid (n0 = xs.length) := hn0
 clear hn0
 go_enter Tryd.func161, Tryd.ntmps161
 go_upto_if 11 with fail
 go_cut [12] from 10 to 15 (fun _ wc => HashSt wc b xs ∧ But b w wc)
 case first =>
  by_cases h0 : n0 = 0
  · have hx0 : xs = [] := List.eq_nil_of_length_eq_zero (HN.out ▸ h0)
    have e0 : ((n0 : Int) == 0) = true := by simp [h0]
    have fl : (ints firsts8.list).length = 8 := rfl
    have f1 : ∀ v ∈ firsts8.val, v.oneCell' = true := int_oneCell _ _
    have HX : Hid (xs = []) := hx0
    clear hx0
    go_wp2_with (first
        | (refine wpList_load_tab (by rfl) (.global 0) 217 (by rfl) 0 8 (by rfl) (isAgg_array Tryd.underlying217) (sizeOf_run (by kernel_rfl)) hF fl ?_)
        | (refine wpList_store_blk (by rfl) (.tmp 15) (.tmp 13) 217 (by rfl) b 0 8 (by rfl) firsts8.val (by rfl) (sizeOf_run (by kernel_rfl)) hblk rfl (by rw [hashCells_length _ _ _ htl]; omega) f1 _ (hashCells_first _ _ _ _) ?_
           intro w2 hb2 hbut2 hsz2))
    go_meet
    case rel =>
        refine ⟨⟨firsts8, tail, ?_, htl, htr, hcut, ?_⟩, hbut2⟩
        · rw [← HN.out]; exact hb2
        · rw [HX.out]; rfl
  · have hx0 : xs ≠ [] := fun h => h0 (by rw [HN.out, h]; rfl)
    have e0 : ((n0 : Int) == 0) = false := by simp [h0]
    have HX : Hid (xs ≠ []) := hx0
    clear hx0
    go_wp2
    go_meet
    case rel =>
        exact ⟨⟨v, tail, by rw [← HN.out]; exact hblk, htl, htr, hcut, hnum HX.out⟩, But.refl _ _⟩
 case rest =>
  obtain ⟨hst, hbut0⟩ := hcut
  have hBc := hB.but hbut0 hne
  have hTc := hT.but hbut0 (Ne.symm hb1)
  clear hsz hblk hblk0 hT hF hB htl htr hnum hok
  go_wp2
  go_loopw [1] (fun sl wr => ∃ (j : Nat) (a' : Option Addr) (c' : Nat), j ≤ ys.length ∧ sl = .slice a' (ys.drop j).length c' ∧ Bs wr a' c' (ys.drop j) ∧ (ys.drop j ≠ [] → ∀ x, a' = some x → x.block ≠ b) ∧ HashSt wr b (xs ++ ys.take j) ∧ But b w wr ∧ Tab .u32 wr 1 (ints stepNums)) (fun sl _ => lenOf sl)
  case atStart => exact ⟨0, a, c, by omega, by simp, by simpa using hBc, by simpa using hne, by simpa using hst, hbut0, hTc⟩
  case round =>
   rename_i hrel
   clear hBc hTc hst hbut0
   obtain ⟨j, a', c', hj, rfl, hBr, hner, ⟨v, tail, hblk, hS⟩, hbut, hT⟩ := hrel
   obtain ⟨D, hD⟩ : ∃ D, D = xs ++ ys.take j := ⟨_, rfl⟩
   obtain ⟨R, hR⟩ : ∃ R, R = ys.drop j := ⟨_, rfl⟩
   have hDl : D.length = xs.length + j := by rw [hD]; simp; omega
   have hRl : R.length = ys.length - j := by rw [hR]; simp
   rw [← hD] at hblk hS
   rw [← hR] at hBr hner ⊢
   by_cases hp : 0 < R.length
   · obtain ⟨L, hL⟩ : ∃ L, L = D.length := ⟨_, rfl⟩
     obtain ⟨r, hr⟩ : ∃ r, r = D.length % 64 := ⟨_, rfl⟩
     obtain ⟨n, hn⟩ : ∃ n, n = Nat.min R.length (64 - r) := ⟨_, rfl⟩
     have lr : r < 64 := by omega
     have ln : n ≤ R.length ∧ n ≤ 64 - r ∧ 0 < n := by rw [hn]; exact ⟨Nat.min_le_left _ _, Nat.min_le_right _ _, by rw [Nat.lt_min]; omega⟩
     have hsz : wr.cell? ⟨b, 72, none⟩ = some (.int .u64 (L : Int)) := by rw [hblk.cell, hL]; exact hashCells_size _ _ _ hS.len
     have e1 : (L : Int).tmod 64 = (r : Int) := by rw [Int.tmod_eq_emod_of_nonneg (by omega)]; omega
     have e1' : (L : Int) % 64 = (r : Int) := by omega
     obtain ⟨a2, c2, hrun2, hstay2, hin2⟩ := Bs.fromIn (P := Tryd.prog) wr a' c' R 43 5 Tryd.underlying43 (by kernel_rfl) (by kernel_rfl) n ln.1 hBr.cap
     obtain ⟨M, hM⟩ : ∃ M, M = R.length := ⟨_, rfl⟩
     have hp' : (0 : Int) < (M : Int) := by omega
     have hsl := slice_arr (P := Tryd.prog) (g := b) (off := 8) Tryd.underlying232 (by kernel_rfl) lr .u64
     have lr' : (r : Int) < 64 := by omega
     have HH : Hid (D = xs ++ ys.take j ∧ R = ys.drop j ∧ D.length = xs.length + j ∧ R.length = ys.length - j ∧ L = D.length ∧ r = D.length % 64 ∧ n = Nat.min R.length (64 - r) ∧ M = R.length) := ⟨hD, hR, hDl, hRl, hL, hr, hn, hM⟩
     have hnm : n = Nat.min M (64 - r) := by rw [hn, hM]
     have hcl := hashCells_length v tail D.length hS.len
     have ln1 : n ≤ R.length := ln.1
     have ln2 : 8 + r + n ≤ 73 := by omega
     have ln3 := ln.2.2
     have HNM : Hid (n = Nat.min M (64 - r)) := hnm
     rw [← hM] at hrun2 ⊢
     clear hnm hD hR hDl hRl hL hr hn hM hp
     have hlk : (R.take n).length = n := by rw [List.length_take, Nat.min_eq_left ln1]
     have hput := hashCells_put v tail (R.take n) D.length r n hS.len hlk (by omega)
     obtain ⟨T, hT2⟩ : ∃ T, T = laid tail r (R.take n) := ⟨_, rfl⟩
     have hTl : T.length = 64 := by rw [hT2, laid_length _ _ _ (by rw [hS.len, hlk]; omega), hS.len]
     rw [← hT2] at hput
     have HT2 : Hid (T = laid tail r (R.take n)) := hT2
     obtain ⟨m, hm⟩ : ∃ m, m = L + n := ⟨_, rfl⟩
     have hLn : (L : Int) + (n : Int) = (m : Int) := by omega
     have hmb : m < 1152921504606846976 := by have := HH.out; omega
     have HM : Hid (m = L + n) := hm
     have nb : (n : Int) ≤ 64 := by omega
     have HL : Hid (L = D.length) := HH.out.2.2.2.2.1
     have HPUT : Hid (splice (hashCells v tail D.length) (8 + r) ((R.take n).map (Value.int .u8)) = hashCells v T D.length) := hput
     have HCL : Hid ((hashCells v tail D.length).length = 73) := hcl
     have HLK : Hid ((R.take n).length = n) := hlk
     clear hT2 hm hput hcl hlk
     by_cases h64 : r + n = 64
     · have e2 : (m : Int).tmod 64 = 0 := by rw [Int.tmod_eq_emod_of_nonneg (by omega)]; have := HH.out; omega
       have HQ : Hid (r + n = 64) := h64
       clear h64
       go_wp2
       go_still_tail 10, (by kernel_rfl)
       go_wp2_with (refine wpList_copy_blk (by rfl) (.tmp 27) (.tmp 28) 43 43 (by rfl) 5 Tryd.underlying43 (by kernel_rfl) b (8 + r) (64 - r) (64 - r) a' M c' (by rfl) (by rfl) (t := 234) (cur := hashCells v tail D.length) hblk R n (hBr.stays (Below.refl _ _).drew) ln3 HNM.out ln1 (by rw [HCL.out]; exact ln2) ?_
                    intro w3 hb3 hbut3 hsz3
                    rw [HPUT.out, ← HL.out] at hb3
                    have hc3 : w3.cell? ⟨b, 72, none⟩ = some (.int .u64 (L : Int)) := by rw [hb3.cell]; exact hashCells_size _ _ _ hTl
                    have hf3 := hb3.free 72)
       have h5 := hb3.set 72 (.int .u64 (m : Int))
       rw [hashCells_count _ _ _ _ hTl] at h5
       have h4 : But b wr (w3.setCell ⟨b, 72, none⟩ (.int .u64 (m : Int))) := ((But.refl b wr).drew.trans hbut3).setCell 72 _
       obtain ⟨w4, hw4⟩ : ∃ w4, w4 = w3.setCell ⟨b, 72, none⟩ (.int .u64 (m : Int)) := ⟨_, rfl⟩
       rw [← hw4] at h5 h4 ⊢
       clear hw4 hb3 hbut3 hsz3 hc3 hf3
       have hl1 : v.val = ((hashCells v T m).drop 0).take 8 := by rw [List.drop_zero]; unfold hashCells; rw [List.append_assoc, List.take_append_of_le_length (by rw [val_length]; omega), List.take_of_length_le (by rw [val_length]; omega)]
       have hl2 : T.map (Value.int .u8) = ((hashCells v T m).drop 8).take 64 := by
           unfold hashCells
           rw [List.append_assoc, List.drop_append, List.drop_eq_nil_of_le (by rw [val_length]; omega), val_length, Nat.sub_self, List.drop_zero, List.nil_append, List.take_append_of_le_length (by simp [hTl]), List.take_of_length_le (by simp [hTl])]
       have hl3 : (T.map (Value.int .u8)).length = 64 := by rw [List.length_map, hTl]
       have hvok : v.Ok := hS.num ▸ hashed_ok _
       have hTr : ∀ x ∈ T, 0 ≤ x ∧ x ≤ 255 := by
           rw [HT2.out]
           exact laid_rng _ _ _ hS.rng (fun x hx => hBr.rng x (List.mem_of_mem_take hx))
       have hcall := taken_run v hvok T hTl hTr w4.drew (hT.but h4.drew (Ne.symm hb1))
       refine wp_region_any (by kernel_rfl) ?_
       change wpAny _ _ _ _ _ _ _ (World.drew _)
       refine any_take 0 rfl (some 48) rfl (.pointer (some ⟨b, 0, none⟩)) (by kernel_rfl) (by kernel_rfl) (by kernel_rfl) (fun _ _ _ h => h) (Or.inl ⟨by rfl, ?_⟩) ?_
       · intro w; go_simp
       simp only [Act.put, sTA, sT0, sT1]
       refine any_take 1 rfl (some 49) rfl (.pointer (some ⟨b, 0, none⟩)) (by kernel_rfl) (by kernel_rfl) (by kernel_rfl) (fun _ _ _ h => h) (Or.inl ⟨by rfl, ?_⟩) ?_
       · intro w; go_simp
       simp only [Act.put, sTA, sT0, sT1]
       refine any_take 2 rfl (some 50) rfl (.pointer (some ⟨b, 0, none⟩)) (by kernel_rfl) (by kernel_rfl) (by kernel_rfl) (fun _ _ _ h => h) (Or.inl ⟨by rfl, ?_⟩) ?_
       · intro w; go_simp
       simp only [Act.put, sTA, sT0, sT1]
       refine any_take 3 rfl (some 51) rfl (.pointer (some ⟨b, 0, none⟩)) (by kernel_rfl) (by kernel_rfl) (by kernel_rfl) (fun _ _ _ h => h) (Or.inl ⟨by rfl, ?_⟩) ?_
       · intro w; go_simp
       simp only [Act.put, sTA, sT0, sT1]
       refine any_take 5 rfl (some 53) rfl (.pointer (some ⟨b, 0, none⟩)) (by kernel_rfl) (by kernel_rfl) (by kernel_rfl) (fun _ _ _ h => h) (Or.inl ⟨by rfl, ?_⟩) ?_
       · intro w; go_simp
       simp only [Act.put, sTA, sT0, sT1]
       refine any_take 6 rfl (some 54) rfl (.pointer (some ⟨b, 0, none⟩)) (by kernel_rfl) (by kernel_rfl) (by kernel_rfl) (fun _ _ _ h => h) (Or.inl ⟨by rfl, ?_⟩) ?_
       · intro w; go_simp
       simp only [Act.put, sTA, sT0, sT1]
       refine any_take 7 rfl (some 55) rfl (.pointer (some ⟨b, 8, none⟩)) (by kernel_rfl) (by kernel_rfl) (by kernel_rfl) (fun _ _ _ h => h) (Or.inl ⟨by rfl, ?_⟩) ?_
       · intro w; go_simp
       simp only [Act.put, sTA, sT0, sT1]
       refine any_loads 4 8 (by kernel_rfl) rfl rfl rfl rfl (some 52) (some 56) rfl rfl (.tmp 51) (.tmp 55) 217 232 rfl rfl b 0 8 b 8 64 rfl rfl (isAgg_array Tryd.underlying217) (sizeOf_run (by kernel_rfl)) (isAgg_array Tryd.underlying232) (sizeOf_run (by kernel_rfl)) h5.drew h5.drew v.val (T.map (Value.int .u8)) hl1 rfl hl2 hl3 ?_ ?_
       · simp only [Act.put, sTA, sT0, sT1]
         refine any_load 8 (by kernel_rfl) rfl rfl (some 56) rfl (.tmp 55) 232 rfl b 8 64 rfl (isAgg_array Tryd.underlying232) (sizeOf_run (by kernel_rfl)) h5.drew (T.map (Value.int .u8)) hl2 hl3 ?_
         simp only [Act.put, sTA, sT0, sT1]
         refine any_call 9 (by kernel_rfl) rfl rfl (some 57) rfl 169 #[.agg v.val.toArray, .agg (T.map (Value.int .u8)).toArray] (by go_simp) hcall ?_
         rintro e w5 ⟨rfl, hb5⟩
         refine ⟨_, rfl, ?_⟩
         simp only [Act.put, sTA, sT0, sT1]
         refine any_take 10 rfl (some 58) rfl (.pointer (some ⟨b, 0, none⟩)) (by kernel_rfl) (by kernel_rfl) (by kernel_rfl) (fun _ _ _ h => h) (Or.inl ⟨by rfl, fun w => by go_simp⟩) ?_
         simp only [Act.put, sTA, sT0, sT1]
         refine any_take 11 rfl (some 59) rfl (.pointer (some ⟨b, 0, none⟩)) (by kernel_rfl) (by kernel_rfl) (by kernel_rfl) (fun _ _ _ h => h) (Or.inl ⟨by rfl, fun w => by go_simp⟩) ?_
         simp only [Act.put, sTA, sT0, sT1]
         refine any_store 12 (by kernel_rfl) rfl rfl none rfl (.tmp 59) (.tmp 57) 217 rfl b 0 8 rfl (takenOf v T).val rfl (sizeOf_run (by kernel_rfl)) (h5.drew.stays hb5) rfl (by rw [hashCells_length _ _ _ hTl]; omega) (int_oneCell _ _) _ (hashCells_first _ _ _ _) ?_
         intro w6 hb6 hbut6 hsz6
         refine wpAny_done (by kernel_rfl) ?_ _
         simp only [Act.put]
         go_wp2
         go_roundw
         case rel =>
          have hh := HH.out
          refine write_next hh.1 hh.2.1 hj hh.2.2.2.2.2.2.2 ln1 hBr hstay2 hin2 hner hbut (h4.drew.trans ((But.of_below hb5).trans hbut6)) hT hb1 hb6 (by rw [HM.out, HL.out]) ?_ (T := T) (m := m) (v' := takenOf v T)
          rw [HT2.out, hh.2.2.2.2.2.1]
          refine hS.full (fun x hx => hBr.rng x (List.mem_of_mem_take hx)) ?_
          have := HQ.out
          have := HLK.out
          omega
         case measure =>
          have hm1 : M - n < M := Nat.sub_lt (by omega) ln3
          exact hm1
       · simp only [Act.put, sTA, sT0, sT1]
         refine any_load 4 (by kernel_rfl) rfl rfl (some 52) rfl (.tmp 51) 217 rfl b 0 8 rfl (isAgg_array Tryd.underlying217) (sizeOf_run (by kernel_rfl)) h5.drew v.val hl1 rfl ?_
         simp only [Act.put, sTA, sT0, sT1]
         refine any_call 9 (by kernel_rfl) rfl rfl (some 57) rfl 169 #[.agg v.val.toArray, .agg (T.map (Value.int .u8)).toArray] (by go_simp) hcall ?_
         rintro e w5 ⟨rfl, hb5⟩
         refine ⟨_, rfl, ?_⟩
         simp only [Act.put, sTA, sT0, sT1]
         refine any_take 10 rfl (some 58) rfl (.pointer (some ⟨b, 0, none⟩)) (by kernel_rfl) (by kernel_rfl) (by kernel_rfl) (fun _ _ _ h => h) (Or.inl ⟨by rfl, fun w => by go_simp⟩) ?_
         simp only [Act.put, sTA, sT0, sT1]
         refine any_take 11 rfl (some 59) rfl (.pointer (some ⟨b, 0, none⟩)) (by kernel_rfl) (by kernel_rfl) (by kernel_rfl) (fun _ _ _ h => h) (Or.inl ⟨by rfl, fun w => by go_simp⟩) ?_
         simp only [Act.put, sTA, sT0, sT1]
         refine any_store 12 (by kernel_rfl) rfl rfl none rfl (.tmp 59) (.tmp 57) 217 rfl b 0 8 rfl (takenOf v T).val rfl (sizeOf_run (by kernel_rfl)) (h5.drew.stays hb5) rfl (by rw [hashCells_length _ _ _ hTl]; omega) (int_oneCell _ _) _ (hashCells_first _ _ _ _) ?_
         intro w6 hb6 hbut6 hsz6
         refine wpAny_done (by kernel_rfl) ?_ _
         simp only [Act.put]
         go_wp2
         go_roundw
         case rel =>
          have hh := HH.out
          refine write_next hh.1 hh.2.1 hj hh.2.2.2.2.2.2.2 ln1 hBr hstay2 hin2 hner hbut (h4.drew.trans ((But.of_below hb5).trans hbut6)) hT hb1 hb6 (by rw [HM.out, HL.out]) ?_ (T := T) (m := m) (v' := takenOf v T)
          rw [HT2.out, hh.2.2.2.2.2.1]
          refine hS.full (fun x hx => hBr.rng x (List.mem_of_mem_take hx)) ?_
          have := HQ.out
          have := HLK.out
          omega
         case measure =>
          have hm1 : M - n < M := Nat.sub_lt (by omega) ln3
          exact hm1
     · obtain ⟨q, hq⟩ : ∃ q, q = r + n := ⟨_, rfl⟩
       have e2 : (m : Int).tmod 64 = (q : Int) := by rw [Int.tmod_eq_emod_of_nonneg (by omega)]; have := HH.out; omega
       have e3 : ((q : Int) == 0) = false := by simp; omega
       have HQ : Hid (r + n ≠ 64) := h64
       clear hq h64
       go_wp2
       go_still_tail 10, (by kernel_rfl)
       go_wp2_with (refine wpList_copy_blk (by rfl) (.tmp 27) (.tmp 28) 43 43 (by rfl) 5 Tryd.underlying43 (by kernel_rfl) b (8 + r) (64 - r) (64 - r) a' M c' (by rfl) (by rfl) (t := 234) (cur := hashCells v tail D.length) hblk R n (hBr.stays (Below.refl _ _).drew) ln3 HNM.out ln1 (by rw [HCL.out]; exact ln2) ?_
                    intro w3 hb3 hbut3 hsz3
                    rw [HPUT.out, ← HL.out] at hb3
                    have hc3 : w3.cell? ⟨b, 72, none⟩ = some (.int .u64 (L : Int)) := by rw [hb3.cell]; exact hashCells_size _ _ _ hTl
                    have hf3 := hb3.free 72)
       go_roundw
       case rel =>
           have hh := HH.out
           refine write_next hh.1 hh.2.1 hj hh.2.2.2.2.2.2.2 ln1 hBr hstay2 hin2 hner hbut (((But.refl b wr).drew.trans hbut3).setCell 72 _) hT hb1 ?_ (by rw [HM.out, HL.out]) ?_ (T := T) (m := m) (v' := v)
           · have h5 := hb3.set 72 (.int .u64 (m : Int))
             rw [hashCells_count _ _ _ _ hTl] at h5
             exact h5
           · rw [HT2.out, hh.2.2.2.2.2.1]
             refine hS.part (fun x hx => hBr.rng x (List.mem_of_mem_take hx)) ?_
             have := HQ.out
             have := HLK.out
             omega
       case measure => simp only [lenOf]; omega
   · have hR0 : R.length = 0 := by omega
     have hfin : HashSt wr b (xs ++ ys) := by
      have h1 : ys.take j = ys := List.take_of_length_le (by omega)
      rw [h1] at hD
      exact ⟨v, tail, hD ▸ hblk, hD ▸ hS⟩
     have hz : ¬ ((0 : Int) < (R.length : Int)) := by omega
     clear hD hR hDl hRl
     go_wp2
     go_end0
     exact ⟨rfl, hfin, hbut⟩
end Go.Proofs.YthbldjnpnligpaaDoor

/-
 Package sha: New, and Sum on a hash.
-/

namespace Go.Proofs.YthbldjnpnligpaaDoor
set_option linter.unusedSimpArgs false
set_option linter.unusedVariables false
set_option maxRecDepth 100000
open Go.RowKit
structure Vars (w : World) : Prop where
 steps : Tab .u32 w 1 (ints stepNums)
 firsts : Tab .u32 w 0 (ints firsts8.list)
theorem Vars.size {w : World} (h : Vars w) : 2 ≤ w.heap.size := by
 have h1 := h.steps.lt (by decide)
 have h2 := h.firsts.lt (by decide)
 omega
theorem Vars.but {w w' : World} {b : Nat} (h : Vars w) (hb : But b w w') (h1 : b ≠ 1) (h2 : b ≠ 0) : Vars w' := ⟨h.steps.but hb (Ne.symm h1), h.firsts.but hb (Ne.symm h2)⟩
theorem Vars.stays {w w' : World} (h : Vars w) (hb : Below w.heap.size w w') : Vars w' := ⟨h.steps.stays hb, h.firsts.stays hb⟩
theorem Vars.below {w w' : World} {B : Nat} (h : Vars w) (hb : Below B w w') (hB : 2 ≤ B) : Vars w' := ⟨h.steps.below hb (by omega), h.firsts.below hb (by omega)⟩
def zero8 : S8 := ⟨0, 0, 0, 0, 0, 0, 0, 0⟩
theorem zero_hash (w : World) : (zeroValue 234).run Tryd.prog w = .ok (.agg (hashCells zero8 (List.replicate 64 0) 0).toArray) w := by
 obtain ⟨i, hi, hz⟩ : ∃ i, Tryd.prog.info? 234 = some i ∧ i.zero = some (.agg (hashCells zero8 (List.replicate 64 0) 0).toArray) := ⟨_, rfl, rfl⟩
 simp [zeroValue, typeInfo, hi, hz, go_sem]
theorem agg_hash (w : World) : (isAgg 234).run Tryd.prog w = .ok true w := by
 obtain ⟨fs, hfs⟩ : ∃ fs, Tryd.prog.underlying 234 = some (.struct fs) := ⟨_, rfl⟩
 exact isAgg_struct hfs w
theorem new_run (w : World) : Calls Tryd.prog 160 #[] w fun e w' => e = .returned (.pointer (some ⟨w.heap.size, 0, none⟩)) ∧ HashAt w' w.heap.size [] ∧ Below w.heap.size w w' ∧ w'.heap.size = w.heap.size + 1 := by
 have hz := zero_hash
 go_enter Tryd.func160, Tryd.ntmps160
 go_wp2
 go_ret
 refine ⟨rfl, ⟨zero8, List.replicate 64 0, Blk.newAt rfl rfl, ⟨by decide, by decide, by decide, by decide, by decide, by decide, by decide, by decide⟩, rfl, by decide, rfl, fun h => absurd rfl h⟩, (Below.refl _ _).alloc (Nat.le_refl _) _, by simp⟩
theorem padded_whole (n : Nat) : (n + (padOf n).length) % 64 = 0 := by
 rw [padOf_length]; omega
theorem hashCells_numbers (v : S8) (T : List Int) (m : Nat) : v.val = ((hashCells v T m).drop 0).take 8 := by
 rw [List.drop_zero]
 unfold hashCells
 rw [List.append_assoc, List.take_append_of_le_length (by rw [val_length]; omega), List.take_of_length_le (by rw [val_length]; omega)]
def bytesUp (v : S8) (j : Nat) : List Int := (v.list.take j).flatMap bytes4 ++ List.replicate (32 - 4 * j) 0
theorem bytes4_length (n : Nat) : (bytes4 n).length = 4 := rfl
theorem flat_length (l : List Nat) : (l.flatMap bytes4).length = 4 * l.length := by
 induction l with
 | nil => rfl
 | cons x l ih => simp only [List.flatMap_cons, List.length_append, bytes4_length, ih, List.length_cons]; omega
theorem bytesUp_length (v : S8) (j : Nat) (hj : j ≤ 8) : (bytesUp v j).length = 32 := by
 unfold bytesUp
 rw [List.length_append, flat_length, List.length_take, List.length_replicate, show v.list.length = 8 from rfl]; omega
theorem set4 (l r : List Int) (x0 x1 x2 x3 y0 y1 y2 y3 : Int) (p : Nat) (hp : p = l.length) : ((((l ++ (x0 :: x1 :: x2 :: x3 :: r)).set p y0).set (p + 1) y1).set (p + 2) y2).set (p + 3) y3 = l ++ ([y0, y1, y2, y3] ++ r) := by
 subst hp
 simp [List.set_append_right]
theorem bytesUp_next (v : S8) (j : Nat) (hj : j < 8) (y0 y1 y2 y3 : Int) (h : bytes4 (v.list.getD j 0) = [y0, y1, y2, y3]) : ((((bytesUp v j).set (4 * j) y0).set (4 * j + 1) y1).set (4 * j + 2) y2).set (4 * j + 3) y3 = bytesUp v (j + 1) := by
 have hl : v.list.length = 8 := rfl
 unfold bytesUp
 rw [show 32 - 4 * j = (32 - 4 * (j + 1)) + 1 + 1 + 1 + 1 by omega]
 simp only [List.replicate_succ]
 rw [set4 _ _ _ _ _ _ _ _ _ _ _ (by rw [flat_length, List.length_take, hl]; omega), List.take_add_one, List.getElem?_eq_getElem (by omega), List.flatMap_append, List.append_assoc]
 congr 2
 have : v.list[j]'(by omega) = v.list.getD j 0 := by simp [List.getD, hl, hj]
 simp only [Option.toList_some, List.flatMap_cons, List.flatMap_nil, List.append_nil, this, h]
theorem hsum_cell {w w3 : World} {o1 o2 o3 : Obj} {b n : Nat} {v : S8} {tail : List Int} (hblk : Blk 234 w b (hashCells v tail n)) (htl : tail.length = 64) (hbut3 : But (w.heap.size + 1 + 1) (((w.alloc o1).alloc o2).alloc o3) w3) :
 w3.cell? ⟨b, 72, none⟩ = some (.int .u64 (n : Int)) := by
 have := hblk.lt
 rw [((((hblk.alloc o1).alloc o2).alloc o3).but hbut3 (by omega)).cell]
 exact hashCells_size _ _ _ htl
theorem hsum_facts {w w3 w4 : World} {t1 t2 : TypeId} {vs1 vs2 : List Value} {c1 c2 : Array Value} {o3 : Obj} {xs : List Int} {n : Nat} (h1 : c1 = vs1.toArray) (h2 : c2 = vs2.toArray) {cs : List Value} (hb3 : Blk 234 w3 (w.heap.size + 1 + 1) cs)
 (hbut3 : But (w.heap.size + 1 + 1) (((w.alloc (.cells c1 t1)).alloc (.cells c2 t2)).alloc o3) w3) (hrow4 : Row 5 w4 w3.heap.size (padOf n)) (hbel4 : Below w3.heap.size w3 w4) (hV : Vars w)
 (hH : ∀ u, Blk 234 u (w.heap.size + 1 + 1) cs → HashAt u (w.heap.size + 1 + 1) xs) :
 HashAt w4 (w.heap.size + 1 + 1) xs ∧ Bs w4 (some ⟨w3.heap.size, 0, none⟩) (padOf n).length (padOf n) ∧ Vars w4 ∧ Below w.heap.size w w4 ∧ Blk t1 w4 w.heap.size vs1 ∧ Blk t2 w4 (w.heap.size + 1) vs2 ∧ w.heap.size + 1 + 1 < w3.heap.size := by
 have hsz := hV.size
 have hs3 := hbut3.size
 simp at hs3
 have e0 : Below w.heap.size w (((w.alloc (.cells c1 t1)).alloc (.cells c2 t2)).alloc o3) := (((Below.refl _ _).alloc (Nat.le_refl _) _).alloc (by simp) _).alloc (by simp; omega) _
 have e1 : Below w.heap.size w w3 := e0.trans (hbut3.below (by omega) (by simp; omega))
 have e2 : Below w.heap.size w w4 := e1.trans (hbel4.mono (by omega))
 have b1 : Blk t1 (((w.alloc (.cells c1 t1)).alloc (.cells c2 t2)).alloc o3) w.heap.size vs1 := ((Blk.newAt rfl h1).alloc _).alloc _
 have b2 : Blk t2 (((w.alloc (.cells c1 t1)).alloc (.cells c2 t2)).alloc o3) (w.heap.size + 1) vs2 := (Blk.newAt (by simp) h2).alloc _
 refine ⟨hH _ (hb3.stays hbel4), hrow4.bs (padOf_rng n) ?_, hV.below e2 hsz, e2, (b1.but hbut3 (by omega)).stays hbel4, (b2.but hbut3 (by omega)).stays hbel4, by omega⟩
 rw [padOf_length]
 have : (119 - n % 64) % 64 < 64 := Nat.mod_lt _ (by decide)
 unfold maxLen
 omega
set_option maxRecDepth 100000 in
set_option maxHeartbeats 600000 in
theorem hsum_run (b : Nat) (xs : List Int) (w : World) (hH : HashAt w b xs) (hlen : xs.length < 1000000000000000000) (hV : Vars w) :
 Calls Tryd.prog 162 #[.pointer (some ⟨b, 0, none⟩)] w fun e w' => e = .returned (.agg ((shaOf xs).map (Value.int .u8)).toArray) ∧ Below w.heap.size w w' := by
 obtain ⟨v, tail, hblk, hok, htl, htr, hcut, hnum⟩ := hH
 have hsz : w.cell? ⟨b, 72, none⟩ = some (.int .u64 (xs.length : Int)) := by rw [hblk.cell]; exact hashCells_size _ _ _ htl
 obtain ⟨n, hn⟩ : ∃ n, n = xs.length := ⟨_, rfl⟩
 obtain ⟨cs, hcs⟩ : ∃ cs, cs = hashCells v tail xs.length := ⟨_, rfl⟩
 have hcl : cs.length = 73 := by rw [hcs]; exact hashCells_length _ _ _ htl
 rw [← hn] at hsz
 rw [← hcs] at hblk
 have hc0 : Hid (cs = (cs.drop 0).take 73) := by unfold Hid; rw [List.drop_zero, List.take_of_length_le (by omega)]
 have hc2 : Hid (cs = (hashCells zero8 (List.replicate 64 0) 0).take 0 ++ cs ++ (hashCells zero8 (List.replicate 64 0) 0).drop (0 + 73)) := by
  unfold Hid; rw [List.take_zero, List.nil_append, List.drop_eq_nil_of_le (by decide), List.append_nil]
 have hc1 : ∀ v ∈ cs, v.oneCell' = true := by
  rw [hcs]
  intro u hu
  unfold hashCells at hu
  simp only [List.mem_append] at hu
  rcases hu with (hu | hu) | hu
  · exact int_oneCell _ _ u hu
  · exact int_oneCell _ _ u hu
  · rw [List.mem_singleton.1 hu]; rfl
 have HN : Hid (n = xs.length) := hn
 have HC : Hid (cs = hashCells v tail xs.length) := hcs
 have hblk0 : Hid (Blk 234 w b (hashCells v tail n)) := by unfold Hid; rw [hn, ← hcs]; exact hblk
 have hnl : n < 1152921504606846976 := by omega
 have hbig : xs.length + (padOf n).length < 1152921504606846976 := by rw [padOf_length]; have : (119 - n % 64) % 64 < 64 := Nat.mod_lt _ (by decide); omega
 have hsz2 := hV.size
 have hne1 : w.heap.size + 1 + 1 ≠ 1 := by omega
 have hne2 : w.heap.size + 1 + 1 ≠ 0 := by omega
 have hH : ∀ u, Blk 234 u (w.heap.size + 1 + 1) cs → HashAt u (w.heap.size + 1 + 1) xs := fun u hu => ⟨v, tail, hcs ▸ hu, hok, htl, htr, hcut, hnum⟩
 clear hn hcs hcut hnum
 go_enter Tryd.func162, Tryd.ntmps162
 have hz := zero_hash
 go_wp2_with (first
  | (refine wpList_load_blk (by rfl) (.tmp 11) 234 (by rfl) b 0 73 (by rfl) agg_hash (sizeOf_run (by kernel_rfl)) ((hblk.alloc _).alloc _) cs hc0.out hcl ?_)
  | (refine wpList_store_blk (by rfl) (.tmp 4) (.tmp 12) 234 (by rfl) (w.heap.size + 1 + 1) 0 73 (by rfl) cs (by rfl) (sizeOf_run (by kernel_rfl)) (e := 234) (vs := hashCells zero8 (List.replicate 64 0) 0) (Blk.newAt (by simp) (by rfl)) hcl (by decide) hc1 cs hc2.out ?_
     intro w3 hb3 hbut3 hsz3
     have hs3 := hsum_cell hblk0.out htl hbut3))
 refine (padding_run n hnl _).mono ?_
 rintro e w4 ⟨rfl, hrow4, hbel4⟩
 obtain ⟨hH4, hB4, hV4, hbelw, hR4, hO4, hlt4⟩ := hsum_facts (vs1 := (List.replicate 32 (0 : Int)).map (Value.int .u8)) (vs2 := (List.replicate 32 (0 : Int)).map (Value.int .u8)) rfl rfl hb3 hbut3 hrow4 hbel4 hV hH
 have hw := write_run (w.heap.size + 1 + 1) xs _ _ (padOf n) w4 hH4 hB4 (fun _ x hx => by cases hx; exact Nat.ne_of_gt hlt4) hbig hV4.steps hV4.firsts hne1 hne2
 clear hsz hb3 hbut3 hrow4 hbel4 hH4 hB4 hblk hs3 hsz3
 go_wp2_with (first
  | (go_at_call 161; go_must (refine hw.mono ?_); rintro e w5 ⟨rfl, ⟨v5, tail5, hblk5, hst5⟩, hbut5⟩)
  | (refine wpList_load_blk (by rfl) (.tmp 19) 217 (by rfl) (w.heap.size + 1 + 1) 0 8 (by rfl) (isAgg_array Tryd.underlying217) (sizeOf_run (by kernel_rfl)) hblk5 v5.val (hashCells_numbers _ _ _) rfl ?_))
 have hR5 : Blk 39 w5 w.heap.size ((List.replicate 32 (0 : Int)).map (Value.int .u8)) := hR4.but hbut5 (by omega)
 have hO5 : Arr .u8 39 w5 (w.heap.size + 1) (bytesUp v5 0) := (hO4.but hbut5 (by omega)).arr
 have hbel5 : Below w.heap.size w w5 := hbelw.trans (hbut5.below (by omega) (by have := hbelw.size; omega))
 have hok5 : v5.Ok := hst5.num ▸ hashed_ok _
 have HV5 : Hid (v5.bytes = shaOf xs) := by unfold Hid shaOf; rw [hst5.num, HN.out]
 obtain ⟨vs, hvs⟩ : ∃ vs, vs = v5.val := ⟨_, rfl⟩
 have hix : ∀ j, j < 8 → vs.toArray[j]? = some (.int .u32 ((v5.list.getD j 0 : Nat) : Int)) := fun j hj => by
  have hl : v5.list.length = 8 := rfl
  rw [hvs, List.getElem?_toArray]
  unfold S8.val ints
  simp [List.getD, hl, hj]
 have hx32 : ∀ j, j < 8 → v5.list.getD j 0 < 4294967296 := fun j hj => getD_lt (fun x hx => by
  simp only [S8.list, List.mem_cons, List.not_mem_nil, or_false] at hx
  rcases hx with rfl | rfl | rfl | rfl | rfl | rfl | rfl | rfl
  · exact hok5.a
  · exact hok5.b
  · exact hok5.c
  · exact hok5.d
  · exact hok5.e
  · exact hok5.f
  · exact hok5.g
  · exact hok5.h) j
 rw [← hvs]
 clear hR4 hO4 hbelw hw hblk5 hst5 hbut5 hvs hok5 hV4 hH
 go_loopw [21] (fun i wr => ∃ j : Nat, j ≤ 8 ∧ i = .int .i64 j ∧ Below w.heap.size w wr ∧ Arr .u8 39 wr (w.heap.size + 1) (bytesUp v5 j) ∧ Blk 39 wr w.heap.size ((List.replicate 32 (0 : Int)).map (Value.int .u8))) (fun i _ => 8 - (intOf i).toNat)
 case atStart => exact ⟨0, by omega, rfl, hbel5, hO5, hR5⟩
 case round =>
  clear hbel5 hO5 hR5
  rename_i hrel
  obtain ⟨j, hj, rfl, hbel, hO, hR⟩ := hrel
  by_cases hlj : j < 8
  · obtain ⟨x, hx⟩ : ∃ x, x = v5.list.getD j 0 := ⟨_, rfl⟩
    have hin := index_agg (P := Tryd.prog) Tryd.underlying217 Tryd.underlying34 (by kernel_rfl) hlj (hix j hlj) .i64
    have lx : x < 4294967296 := hx ▸ hx32 j hlj
    rw [← hx] at hin
    obtain ⟨y0, hy0⟩ : ∃ y, y = x / 16777216 := ⟨_, rfl⟩
    obtain ⟨y1, hy1⟩ : ∃ y, y = x / 65536 % 256 := ⟨_, rfl⟩
    obtain ⟨y2, hy2⟩ : ∃ y, y = x / 256 % 256 := ⟨_, rfl⟩
    obtain ⟨y3, hy3⟩ : ∃ y, y = x % 256 := ⟨_, rfl⟩
    have e0 : (x : Int) / 16777216 = (y0 : Int) := by omega
    have e00 : (y0 : Int) % 256 = (y0 : Int) := by omega
    obtain ⟨s1, hs1⟩ : ∃ s, s = x / 65536 := ⟨_, rfl⟩
    obtain ⟨s2, hs2⟩ : ∃ s, s = x / 256 := ⟨_, rfl⟩
    have e10 : (x : Int) / 65536 = (s1 : Int) := by omega
    have e20 : (x : Int) / 256 = (s2 : Int) := by omega
    have ly0 : y0 < 256 := by omega
    have e1 : (s1 : Int) % 256 = (y1 : Int) := by omega
    have e2 : (s2 : Int) % 256 = (y2 : Int) := by omega
    clear hs1 hs2
    have e3 : (x : Int) % 256 = (y3 : Int) := by omega
    have HB : Hid (bytes4 (v5.list.getD j 0) = [(y0 : Int), (y1 : Int), (y2 : Int), (y3 : Int)]) := by unfold Hid bytes4; rw [← hx, hy0, hy1, hy2, hy3]
    obtain ⟨p0, hp0⟩ : ∃ p, p = 4 * j := ⟨_, rfl⟩
    obtain ⟨p1, hp1⟩ : ∃ p, p = 4 * j + 1 := ⟨_, rfl⟩
    obtain ⟨p2, hp2⟩ : ∃ p, p = 4 * j + 2 := ⟨_, rfl⟩
    obtain ⟨p3, hp3⟩ : ∃ p, p = 4 * j + 3 := ⟨_, rfl⟩
    have f0 : 4 * (j : Int) = (p0 : Int) := by omega
    have f1 : (p0 : Int) + 1 = (p1 : Int) := by omega
    have f2 : (p0 : Int) + 2 = (p2 : Int) := by omega
    have f3 : (p0 : Int) + 3 = (p3 : Int) := by omega
    have b0 : (p0 : Int) < 32 := by omega
    have b1 : (p1 : Int) < 32 := by omega
    have b2 : (p2 : Int) < 32 := by omega
    have b3 : (p3 : Int) < 32 := by omega
    have n10 : (p1 = p0) = False := eq_false (by omega)
    have n01 : (p0 = p1) = False := eq_false (by omega)
    have n20 : (p2 = p0) = False := eq_false (by omega)
    have n02 : (p0 = p2) = False := eq_false (by omega)
    have n21 : (p2 = p1) = False := eq_false (by omega)
    have n12 : (p1 = p2) = False := eq_false (by omega)
    have n30 : (p3 = p0) = False := eq_false (by omega)
    have n03 : (p0 = p3) = False := eq_false (by omega)
    have n31 : (p3 = p1) = False := eq_false (by omega)
    have n13 : (p1 = p3) = False := eq_false (by omega)
    have n32 : (p3 = p2) = False := eq_false (by omega)
    have n23 : (p2 = p3) = False := eq_false (by omega)
    have hbl := bytesUp_length v5 j hj
    have hO0 := hO
    have hO1 := hO0.set p0 (y0 : Int)
    have hO2 := hO1.set p1 (y1 : Int)
    have hO3 := hO2.set p2 (y2 : Int)
    have hO4 := hO3.set p3 (y3 : Int)
    obtain ⟨z0, c0⟩ : ∃ z, wr.cell? ⟨w.heap.size + 1, p0, none⟩ = some (.int .u8 z) := ⟨_, hO0.cell p0 (by omega)⟩
    obtain ⟨z1, c1⟩ : ∃ z, wr.cell? ⟨w.heap.size + 1, p1, none⟩ = some (.int .u8 z) := ⟨_, hO0.cell p1 (by omega)⟩
    obtain ⟨z2, c2⟩ : ∃ z, wr.cell? ⟨w.heap.size + 1, p2, none⟩ = some (.int .u8 z) := ⟨_, hO0.cell p2 (by omega)⟩
    obtain ⟨z3, c3⟩ : ∃ z, wr.cell? ⟨w.heap.size + 1, p3, none⟩ = some (.int .u8 z) := ⟨_, hO0.cell p3 (by omega)⟩
    have z0f := hO0.free p0
    have z1f := hO0.free p1
    have z2f := hO0.free p2
    have z3f := hO0.free p3
    clear hO1 hO2 hO3 hO4
    have HP : Hid (p0 = 4 * j ∧ p1 = 4 * j + 1 ∧ p2 = 4 * j + 2 ∧ p3 = 4 * j + 3) := ⟨hp0, hp1, hp2, hp3⟩
    clear hne1 hne2 hlt4 hsz2 hnl hlen hbig
    clear hx hy0 hy1 hy2 hy3 hp0 hp1 hp2 hp3 hix hx32 hbl
    go_wp2
    go_roundw
    case rel =>
        obtain ⟨hp0, hp1, hp2, hp3⟩ := HP.out
        refine ⟨j + 1, by omega, by go_num, ?_, ?_, ?_⟩
        · exact (((hbel.setCell (by simp) _).setCell (by simp) _).setCell (by simp) _).setCell (by simp) _
        · have h4 := (((hO0.set p0 (y0 : Int)).set p1 (y1 : Int)).set p2 (y2 : Int)).set p3 (y3 : Int)
          have h5 := bytesUp_next v5 j hlj _ _ _ _ HB.out
          rw [← hp0, show p0 + 1 = p1 by omega, show p0 + 2 = p2 by omega, show p0 + 3 = p3 by omega] at h5
          rw [h5] at h4
          exact h4
        · exact hR.but (((((But.refl (w.heap.size + 1) wr).setCell p0 _).setCell p1 _).setCell p2 _).setCell p3 _) (by omega)
    case measure => simp [intOf]; omega
  · have h8 : Arr .u8 39 wr (w.heap.size + 1) (shaOf xs) := by
        have e : j = 8 := by omega
        have h9 : bytesUp v5 8 = v5.bytes := by simp [bytesUp, S8.bytes, S8.list]
        rw [e, h9, HV5.out] at hO
        exact hO
    obtain ⟨us, hus⟩ : ∃ us, us = (shaOf xs).map (Value.int .u8) := ⟨_, rfl⟩
    have hul : us.length = 32 := by rw [hus, List.length_map, shaOf_length]
    have hu1 : ∀ v ∈ us, v.oneCell' = true := hus ▸ int_oneCell _ _
    have hu0 : Hid (us = (us.drop 0).take 32) := by unfold Hid; rw [List.drop_zero, List.take_of_length_le (by omega)]
    have hu2 : Hid (us = ((List.replicate 32 (0 : Int)).map (Value.int .u8)).take 0 ++ us ++ ((List.replicate 32 (0 : Int)).map (Value.int .u8)).drop (0 + 32)) := by
        unfold Hid; rw [List.take_zero, List.nil_append, List.drop_eq_nil_of_le (by simp), List.append_nil]
    have h8b := h8.blk
    rw [← hus] at h8b
    have HUS : Hid (us = (shaOf xs).map (Value.int .u8)) := hus
    have hbs := hbel.size
    clear hus h8 hO hne1 hne2 hix hx32
    go_wp2_with (first
        | (refine wpList_load_blk (by rfl) (.tmp 3) 39 (by rfl) (w.heap.size + 1) 0 32 (by rfl) (isAgg_array Tryd.underlying39) (sizeOf_run (by kernel_rfl)) h8b us hu0.out hul ?_)
        | (refine wpList_store_blk (by rfl) (.tmp 2) (.tmp 52) 39 (by rfl) w.heap.size 0 32 (by rfl) us (by rfl) (sizeOf_run (by kernel_rfl)) hR hul (by simp) hu1 us hu2.out ?_
           intro w6 hb6 hbut6 hsz6))
    go_wp2
    refine bodyPost_ret_blk (by rfl) (by rfl) (by rfl) (isAgg_array Tryd.underlying39) (sizeOf_run (by kernel_rfl)) hb6 hul ?_
    exact ⟨by rw [HUS.out], hbel.trans (hbut6.below (Nat.le_refl _) hbs)⟩
end Go.Proofs.YthbldjnpnligpaaDoor
