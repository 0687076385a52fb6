/-
  Package sha: the padding.
-/
import Derived.Test.YtjfoidilecognaaDoorG15
import Derived.Test.YtjfoidilecognaaDoorG02
import Derived.Deep.Cut
import Derived.BigRegion
import Derived.Deep.RegionWith
import Derived.Deep.CutRange
namespace Go.Proofs.YtjfoidilecognaaDoor
set_option linter.unusedSimpArgs false
set_option linter.unusedVariables false
set_option maxRecDepth 100000
open Go.RowKit

def padByte (n k : Nat) : Nat := n * 8 / 2 ^ (8 * k) % 256
def lastBytes (n : Nat) : List Int := (List.range 8).map fun i => ((padByte n (7 - i) : Nat) : Int)
/-- The padding, of whose last bytes k are laid. -/
def padUp (n k : Nat) : List Int := (128 :: List.replicate ((119 - n % 64) % 64) 0) ++ (List.replicate (8 - k) 0 ++ (lastBytes n).drop (8 - k))

theorem padUp_length (n k : Nat) (hk : k ≤ 8) : (padUp n k).length = (119 - n % 64) % 64 + 9 := by simp [padUp, lastBytes]; try omega
theorem padUp_all (n : Nat) : padUp n 8 = padOf n := by simp [padUp, padOf, lastBytes, padByte]
theorem padUp_none (n : Nat) : padUp n 0 = (List.replicate ((119 - n % 64) % 64 + 9) 0).set 0 128 := by
  have h : (lastBytes n).drop 8 = [] := List.drop_eq_nil_of_le (by simp [lastBytes])
  have e : List.replicate ((119 - n % 64) % 64 + 9) (0 : Int) = 0 :: (List.replicate ((119 - n % 64) % 64) 0 ++ List.replicate 8 0) := by
    rw [List.replicate_append_replicate]; rfl
  rw [e]
  simp only [padUp, Nat.sub_zero, h, List.append_nil, List.set_cons_zero, List.cons_append]
theorem padUp_next (n k : Nat) (hk : k < 8) : (padUp n k).set ((119 - n % 64) % 64 + 8 - k) ((padByte n k : Nat) : Int) = padUp n (k + 1) := by
  have h1 : (lastBytes n).drop (8 - (k + 1)) = ((padByte n k : Nat) : Int) :: (lastBytes n).drop (8 - k) := by
    rw [show 8 - k = 8 - (k + 1) + 1 by omega]
    rw [List.drop_eq_getElem_cons (by simp [lastBytes]; omega)]
    congr 1
    simp only [lastBytes, List.getElem_map, List.getElem_range]
    rw [show 7 - (8 - (k + 1)) = k by omega]
  unfold padUp
  rw [h1, show 8 - k = (8 - (k + 1)) + 1 by omega, List.replicate_succ', List.append_assoc, List.set_append_right _ _ (by simp; omega)]
  congr 1
  rw [List.set_append_right _ _ (by simp; omega)]
  congr 1
  rw [show (119 - n % 64) % 64 + 8 - k - (128 :: List.replicate ((119 - n % 64) % 64) (0 : Int)).length - (List.replicate (8 - (k + 1)) (0 : Int)).length = 0 by simp; omega]
  rfl

set_option maxRecDepth 100000 in
set_option maxHeartbeats 2000000 in
theorem padding_run (n : Nat) (hn : n < 1152921504606846976) (w : World) :
    Calls Tryd.prog 92 #[.int .u64 (n : Int)] w fun e w' => e = .returned (.slice (some ⟨w.heap.size, 0, none⟩) (padOf n).length (padOf n).length) ∧ Row 5 w' w.heap.size (padOf n) ∧ Below w.heap.size w w' := by
  obtain ⟨i0, hi, hz0, hz1, hz2⟩ : ∃ i, Tryd.prog.info? 5 = some i ∧ i.zero = some (.int .u8 0) ∧ i.size = 1 ∧ i.bytes = 1 := ⟨_, rfl, rfl, rfl, rfl⟩
  obtain ⟨nz, hnz⟩ : ∃ z, z = (119 - n % 64) % 64 := ⟨_, rfl⟩
  obtain ⟨r, hr⟩ : ∃ z, z = n % 64 := ⟨_, rfl⟩
  have e1 : (n : Int) % 64 = (r : Int) := by omega
  have e2 : ((119 : Int) - (r : Int)) % 64 = (nz : Int) := by omega
  have lr : r < 64 := by omega
  have lz : nz < 64 := by omega
  have hsr := index_run (P := Tryd.prog) 43 5 Tryd.underlying43 (by kernel_rfl) (by kernel_rfl) w.heap.size 0 (nz + 9) (nz + 9) .i64
  have HN : Hid (nz = (119 - n % 64) % 64) := hnz
  have HL : Hid ((padOf n).length = nz + 9) := by unfold Hid; rw [hnz, padOf_length]
  clear hnz hr
  go_enter Tryd.func92, Tryd.ntmps92
  go_wp2_with (at_make; go_must (refine wpList_make_bytes (w0 := w) (by rfl) _ _ 43 (by rfl) w.heap.size 5 i0 Tryd.underlying43 hi hz0 hz1 hz2 _ _ _ _ (nz + 9) (by rfl) (by rfl) (by omega) (by omega) (by omega) (Nat.le_refl _) (Below.refl _ _) ?_); intro w1 hrow1 hb1; obtain ⟨z, hz⟩ : ∃ z, w1.cell? ⟨w.heap.size, 0, none⟩ = some (.int .u8 z) := ⟨_, hrow1.cell 0 (by simp)⟩; have hf1 := hrow1.free 0)
  have hrow2 : Row 5 (w1.setCell ⟨w.heap.size, 0, none⟩ (.int .u8 128)) w.heap.size (padUp n 0) := by
    rw [padUp_none, ← HN.out]
    exact hrow1.set 0 128
  have hb2 : Below w.heap.size w (w1.setCell ⟨w.heap.size, 0, none⟩ (.int .u8 128)) := hb1.setCell (Nat.le_refl _) _
  go_loopw [16] (fun i wr => ∃ k : Nat, k ≤ 8 ∧ i = .int .i64 k ∧ Row 5 wr w.heap.size (padUp n k) ∧ Below w.heap.size w wr) (fun i _ => 8 - (intOf i).toNat)
  case atStart => exact ⟨0, by omega, rfl, hrow2, hb2⟩
  case round =>
    clear hrow1 hrow2 hb1 hb2 hz hf1
    rename_i hrel
    obtain ⟨k, hk, rfl, hrow, hb⟩ := hrel
    by_cases hlt : k < 8
    · obtain ⟨m, hm⟩ : ∃ m, m = nz + 8 - k := ⟨_, rfl⟩
      obtain ⟨x, hx⟩ : ∃ x, x = padByte n k := ⟨_, rfl⟩
      obtain ⟨y, hy⟩ : ∃ x, x = n * 8 / 2 ^ (8 * k) := ⟨_, rfl⟩
      obtain ⟨z, hz⟩ : ∃ z, wr.cell? ⟨w.heap.size, m, none⟩ = some (.int .u8 z) := ⟨_, hrow.cell m (by rw [padUp_length _ _ hk, ← HN.out]; omega)⟩
      have fz := hrow.free m
      have hx1 := hsr m (by omega)
      rw [Nat.zero_add] at hx1
      have e3 : (nz : Int) + 9 - 1 - (k : Int) = (m : Int) := by omega
      have e4 : (n : Int) * 8 / 2 ^ (8 * k) = (y : Int) := by
        rw [hy, Int.natCast_ediv, Int.natCast_mul, Int.natCast_pow]; rfl
      have e5 : (y : Int) % 256 = (x : Int) := by rw [hx, padByte, ← hy]; omega
      have HM : Hid (m = (119 - n % 64) % 64 + 8 - k) := by unfold Hid; rw [← HN.out]; exact hm
      have HX : Hid (x = padByte n k) := hx
      clear hm hx hy hsr
      go_wp2
      go_roundw
      case rel =>
        refine ⟨k + 1, by omega, by go_num, ?_, hb.setCell (Nat.le_refl _) _⟩
        have h1 := hrow.set m (x : Int)
        rw [HM.out, HX.out, padUp_next n k hlt, ← HM.out, ← HX.out] at h1
        exact h1
      case measure => simp [intOf]; omega
    · have h8 : Row 5 wr w.heap.size (padOf n) := by
        have e : k = 8 := by omega
        rw [← padUp_all, ← e]; exact hrow
      go_wp2
      go_ret
      exact ⟨by rw [HL.out]; rfl, h8, hb⟩
end Go.Proofs.YtjfoidilecognaaDoor

/-
  The document's answer for package sha: the padded bytes.
-/

namespace Go.Proofs.YtjfoidilecognaaDoor
set_option linter.unusedSimpArgs false
set_option linter.unusedVariables false
set_option maxRecDepth 100000
open Go.RowKit

def lenV : Value → Nat
  | .slice _ n _ => n
  | _ => 0

theorem pad_split (xs : List Int) : xs ++ padOf xs.length = ((xs ++ [128]) ++ List.replicate ((119 - xs.length % 64) % 64) 0) ++ lastBytes xs.length := by
  simp [padOf, lastBytes, padByte]
theorem lastBytes_take (n k : Nat) (hk : k < 8) : (lastBytes n).take (k + 1) = (lastBytes n).take k ++ [((padByte n (7 - k) : Nat) : Int)] := by
  rw [List.take_add_one]
  congr 1
  simp [lastBytes, hk]
theorem lastBytes_rng (n : Nat) : ∀ x ∈ lastBytes n, 0 ≤ x ∧ x ≤ 255 := by
  intro x hx
  obtain ⟨i, _, rfl⟩ := List.mem_map.1 hx
  have := Nat.mod_lt (n * 8 / 2 ^ (8 * (7 - i))) (show 0 < 256 by decide)
  unfold padByte
  omega

theorem owns_ge {w : World} {base : Nat} {e : TypeId} {a : Option Addr} {m c n : Nat} {xs : List Value} (h : w.ownsRow base e 1 (.slice a m c) n xs) (x : Addr) (hx : a = some x) : base ≤ x.block := by
  subst hx
  rcases h.2 with ⟨h1, _⟩ | ⟨g, cap, cur, h1, h2, _⟩
  · cases h1
  · cases h1; exact h2

set_option maxRecDepth 100000 in
set_option maxHeartbeats 2000000 in
theorem padded_run (a : Option Addr) (c : Nat) (xs : List Int) (w : World) (hB : Bs w a c xs) (hlen : xs.length < 1000000000000) :
    Calls Tryd.prog 87 #[.slice a xs.length c] w fun e w' => ∃ a' c', e = .returned (.slice a' (xs ++ padOf xs.length).length c') ∧ Bs w' a' c' (xs ++ padOf xs.length) ∧ (∀ x, a' = some x → w.heap.size ≤ x.block) ∧ Below w.heap.size w w' := by
  obtain ⟨i0, hi, hz0, hz1, hz2⟩ : ∃ i, Tryd.prog.info? 5 = some i ∧ i.zero = some (.int .u8 0) ∧ i.size = 1 ∧ i.bytes = 1 := ⟨_, rfl, rfl, rfl, rfl⟩
  obtain ⟨N, hN⟩ : ∃ N, N = xs.length := ⟨_, rfl⟩
  have hlN : N < 1000000000000 := by omega
  have HN : Hid (N = xs.length) := hN
  rw [← hN]
  have hB128 : ∀ u : World, Bs (u.alloc (.cells #[.int .u8 128] 5)) (some ⟨u.heap.size, 0, none⟩) 1 [128] := fun u => Bs.one u 128 ⟨by decide, by decide⟩ _
  have hB0 : ∀ u : World, Bs (u.alloc (.cells #[.int .u8 0] 5)) (some ⟨u.heap.size, 0, none⟩) 1 [0] := fun u => Bs.one u 0 ⟨by decide, by decide⟩ _
  obtain ⟨Y, hY⟩ : ∃ Y, Y = xs ++ [128] := ⟨_, rfl⟩
  have hYl : Y.length = N + 1 := by rw [hY, hN]; simp
  have HY : Hid (Y = xs ++ [128]) := hY
  clear hN hY
  go_enter Tryd.func87, Tryd.ntmps87
  go_wp2_with (at_builtin; first
    | (refine wpList_append_bytes (w0 := w) (by rfl) (.tmp 6) (.tmp 7) 43 (by rfl) w.heap.size 5 i0 Tryd.underlying43 hi hz0 hz1 hz2 _ [] (by rfl) (World.ownsRow_made w #[] 0 (Nat.le_refl _) (by decide) rfl) a N c xs (by rfl) HN.out (hB.stays ((Below.refl _ _).alloc (Nat.le_refl _) _)) (by have := HN.out; simp; omega) (by simp) ((Below.refl _ _).alloc (Nat.le_refl _) _) ?_
       rw [List.nil_append]
       intro v1 w1 hown1 hb1
       have hs1 := hb1.size)
    | (refine wpList_append_bytes (w0 := w) (by rfl) (.tmp 9) (.tmp 10) 43 (by rfl) w.heap.size 5 i0 Tryd.underlying43 hi hz0 hz1 hz2 _ xs (by rfl) (hown1.alloc _) (some ⟨w1.heap.size, 0, none⟩) 1 1 [128] (by rfl) (by rfl) (hB128 _) (by have := HN.out; simp; omega) (by simp; omega) (hb1.alloc hs1 _) ?_
       rw [← HY.out]
       intro v2 w2 hown2 hb2
       have hs2 := hb2.size))
  obtain ⟨nz, hnz⟩ : ∃ z, z = (119 - N % 64) % 64 := ⟨_, rfl⟩
  have lz : nz < 64 := by omega
  have hYr : ∀ x ∈ Y, 0 ≤ x ∧ x ≤ 255 := by
    rw [HY.out]
    intro x hx
    rcases List.mem_append.1 hx with h | h
    · exact hB.rng x h
    · rw [List.mem_singleton.1 h]; decide
  have hzr : ∀ j, ∀ x ∈ Y ++ List.replicate j 0, 0 ≤ x ∧ x ≤ 255 := fun j x hx => by
    rcases List.mem_append.1 hx with h | h
    · exact hYr x h
    · rw [List.eq_of_mem_replicate h]; decide
  go_loopw [3] (fun v wr => ∃ j : Nat, j ≤ nz ∧ wr.ownsRow w.heap.size 5 1 v (Y ++ List.replicate j 0).length ((Y ++ List.replicate j 0).map (Value.int .u8)) ∧ Below w.heap.size w wr) (fun v _ => N + 1 + nz - lenV v)
  case atStart => exact ⟨0, by omega, by simpa using hown2, hb2⟩
  case round =>
    clear hown1 hown2 hb1 hb2 hs1 hs2
    rename_i hrel
    obtain ⟨j, hj, hown, hbel⟩ := hrel
    have hsr := hbel.size
    obtain ⟨Z, hZ⟩ : ∃ Z, Z = Y ++ List.replicate j 0 := ⟨_, rfl⟩
    have hZl : Z.length = N + 1 + j := by rw [hZ, List.length_append, hYl, List.length_replicate]
    rw [← hZ] at hown
    obtain ⟨a3, c3, rfl, hB3⟩ := Bs.of_owns hown (hZ ▸ hzr j)
    obtain ⟨M, hM⟩ : ∃ M, M = Z.length := ⟨_, rfl⟩
    by_cases hlt : j < nz
    · have e1 : ((M : Int).tmod 64 == 56) = false := by rw [Int.tmod_eq_emod_of_nonneg (by omega)]; simp; omega
      have e2 : ((M : Int) % 64 == 56) = false := by simp; omega
      have HZ : Hid (Y ++ List.replicate (j + 1) 0 = Z ++ [0]) := by unfold Hid; rw [hZ, List.replicate_succ', List.append_assoc]
      have HZl : Hid (M = N + 1 + j) := by unfold Hid; rw [hM, hZl]
      have HM : Hid (M = Z.length) := hM
      have hownM : wr.ownsRow w.heap.size 5 1 (.slice a3 M c3) Z.length (Z.map (Value.int .u8)) := by rw [hM]; exact hown
      rw [← hM]
      clear hZ hZl hM hYl hnz hown
      go_wp2_with (at_builtin; go_must (refine wpList_append_bytes (w0 := w) (by rfl) (.tmp 16) (.tmp 17) 43 (by rfl) w.heap.size 5 i0 Tryd.underlying43 hi hz0 hz1 hz2 _ Z (by rfl) (hownM.alloc _) (some ⟨wr.heap.size, 0, none⟩) 1 1 [0] (by rfl) (by rfl) (hB0 _) (by have := HZl.out; have := HM.out; simp; omega) (by simp; omega) (hbel.alloc hsr _) ?_); intro v4 w4 hown4 hb4)
      go_roundw
      case rel => exact ⟨j + 1, by omega, by rw [HZ.out]; exact hown4, hb4⟩
      case measure =>
        obtain ⟨a4, c4, rfl, _⟩ := Bs.of_owns hown4 (HZ.out ▸ hzr (j + 1))
        have := HZl.out
        have := HM.out
        simp [lenV]
        omega
    · have e1 : ((M : Int).tmod 64 != 56) = false := by rw [Int.tmod_eq_emod_of_nonneg (by omega)]; simp; omega
      have e2 : ((M : Int) % 64 != 56) = false := by simp; omega
      have hjz : j = nz := by omega
      have HP : Hid (xs ++ padOf N = Z ++ lastBytes N) := by
        unfold Hid
        have h := pad_split xs
        rw [← HN.out, ← HY.out, ← hnz, ← hjz, ← hZ] at h
        exact h
      have hZr := hZ ▸ hzr j
      have hownM : wr.ownsRow w.heap.size 5 1 (.slice a3 M c3) (Z ++ (lastBytes N).take 0).length ((Z ++ (lastBytes N).take 0).map (Value.int .u8)) := by rw [List.take_zero, List.append_nil, hM]; exact hown
      have hM2 : M < 1000000000100 := by omega
      have HM : Hid (M = Z.length) := hM
      rw [← hM]
      clear hZ hZl hM hYl hnz hown hjz
      go_wp2
      have hlr : ∀ k, ∀ x ∈ Z ++ (lastBytes N).take k, 0 ≤ x ∧ x ≤ 255 := fun k x hx => by
        rcases List.mem_append.1 hx with h | h
        · exact hZr x h
        · exact lastBytes_rng N x (List.mem_of_mem_take h)
      clear e1 e2
      go_loopw [3, 5] (fun v i wr => ∃ k : Nat, k ≤ 8 ∧ i = .int .i64 (7 - (k : Int)) ∧ wr.ownsRow w.heap.size 5 1 v (Z ++ (lastBytes N).take k).length ((Z ++ (lastBytes N).take k).map (Value.int .u8)) ∧ Below w.heap.size w wr) (fun _ i _ => (intOf i + 1).toNat)
      case atStart => exact ⟨0, by omega, rfl, hownM, hbel⟩
      case round =>
        clear hownM hbel hsr hB3
        rename_i hrel
        obtain ⟨k, hk, rfl, hown, hbel⟩ := hrel
        have hsr := hbel.size
        by_cases hlk : k < 8
        · obtain ⟨F, hF⟩ : ∃ F, F = Z ++ (lastBytes N).take k := ⟨_, rfl⟩
          have hFl : F.length ≤ M + 8 := by rw [hF, List.length_append, ← HM.out, List.length_take]; omega
          rw [← hF] at hown
          obtain ⟨q, hq⟩ : ∃ q, q = 7 - k := ⟨_, rfl⟩
          have hq7 : (7 : Int) - (k : Int) = (q : Int) := by omega
          rw [hq7]
          have lq : q < 8 := by omega
          obtain ⟨y, hy⟩ : ∃ y, y = N * 8 / 2 ^ (8 * q) := ⟨_, rfl⟩
          obtain ⟨x, hx⟩ : ∃ x, x = padByte N q := ⟨_, rfl⟩
          have e4 : (N : Int) * 8 / 2 ^ (8 * q) = (y : Int) := by
            rw [hy, Int.natCast_ediv, Int.natCast_mul, Int.natCast_pow]; rfl
          have e5 : (y : Int) % 256 = (x : Int) := by rw [hx, padByte, ← hy]; omega
          have lx : x < 256 := by rw [hx]; exact Nat.mod_lt _ (by decide)
          have HX : Hid (Z ++ (lastBytes N).take (k + 1) = F ++ [(x : Int)]) := by
            unfold Hid
            rw [lastBytes_take N k hlk, ← List.append_assoc, ← hF, ← hq, ← hx]
          have hBx : ∀ u : World, Bs (u.alloc (.cells #[.int .u8 (x : Int)] 5)) (some ⟨u.heap.size, 0, none⟩) 1 [(x : Int)] := fun u => Bs.one u x ⟨by omega, by omega⟩ _
          have HQ : Hid (q = 7 - k) := hq
          clear hF hq hx hy hq7
          go_wp2_with (at_builtin; go_must (refine wpList_append_bytes (w0 := w) (by rfl) (.tmp 27) (.tmp 34) 43 (by rfl) w.heap.size 5 i0 Tryd.underlying43 hi hz0 hz1 hz2 _ F (by rfl) (hown.alloc _) (some ⟨wr.heap.size, 0, none⟩) 1 1 [(x : Int)] (by rfl) (by rfl) (hBx _) (by simp; omega) (by simp; omega) (hbel.alloc hsr _) ?_); intro v4 w4 hown4 hb4)
          go_roundw
          case rel =>
            refine ⟨k + 1, by omega, ?_, by rw [HX.out]; exact hown4, hb4⟩
            congr 1
            have := HQ.out
            omega
          case measure => have := HQ.out; simp [intOf]; try omega
        · obtain ⟨a4, c4, rfl, hB4⟩ := Bs.of_owns hown (hlr k)
          have hge := owns_ge hown
          have e8 : Z ++ (lastBytes N).take k = xs ++ padOf N := by
            rw [HP.out, List.take_of_length_le (by simp [lastBytes]; omega)]
          rw [e8] at hB4
          obtain ⟨T, hT⟩ : ∃ T, T = (xs ++ padOf N).length := ⟨_, rfl⟩
          clear hown
          rw [e8, ← hT]
          have hneg : ¬ ((0 : Int) ≤ 7 - (k : Int)) := by omega
          have HT : Hid (T = (xs ++ padOf N).length) := hT
          clear hT e8
          go_wp2
          go_ret
          exact ⟨a4, c4, by show Ending.returned (Value.slice a4 T c4) = _; rw [HT.out]; simp [← HN.out], hB4, hge, hbel⟩
end Go.Proofs.YtjfoidilecognaaDoor

/-
  Package sha: a hash that goes on, and bytes that are written to it.
-/

namespace Go.Proofs.YtjfoidilecognaaDoor
set_option linter.unusedSimpArgs false
set_option linter.unusedVariables false
set_option maxRecDepth 100000
open Go.RowKit

theorem splice_mid (A B C ys : List Value) (r n : Nat) (off : Nat) (ho : off = A.length + r) (hn : ys.length = n) (hr : r + n ≤ B.length) : splice (A ++ B ++ C) off ys = A ++ (B.take r ++ (ys ++ B.drop (r + n))) ++ C := by
  subst ho hn
  unfold splice
  simp only [List.append_assoc]
  rw [List.take_append, List.take_of_length_le (by omega), Nat.add_sub_cancel_left, List.take_append_of_le_length (by omega), Nat.add_assoc, List.drop_append, List.drop_eq_nil_of_le (by omega), Nat.add_sub_cancel_left, List.drop_append_of_le_length (by omega)]
  simp

/-- The cells of a hash. -/
def hashCells (v : S8) (tail : List Int) (n : Nat) : List Value := v.val ++ tail.map (Value.int .u8) ++ [.int .u64 (n : Int)]

theorem val_length (v : S8) : v.val.length = 8 := rfl
theorem hashCells_length (v : S8) (tail : List Int) (n : Nat) (h : tail.length = 64) : (hashCells v tail n).length = 73 := by simp [hashCells, h, val_length]
theorem hashCells_size (v : S8) (tail : List Int) (n : Nat) (h : tail.length = 64) : (hashCells v tail n)[72]? = some (.int .u64 (n : Int)) := by
  unfold hashCells
  rw [List.getElem?_append_right (by simp [h, val_length])]
  simp [h, val_length]

/-- The block b is a hash behind the bytes xs. -/
def HashAt (w : World) (b : Nat) (xs : List Int) : Prop :=
  ∃ (v : S8) (tail : List Int), Blk 154 w b (hashCells v tail xs.length) ∧ v.Ok ∧ tail.length = 64 ∧ (∀ x ∈ tail, 0 ≤ x ∧ x ≤ 255) ∧ tail.take (xs.length % 64) = xs.drop (xs.length / 64 * 64) ∧ (xs ≠ [] → v = hashed xs)

/-- A slice's length. -/
def lenOf : Value → Nat
  | .slice _ n _ => n
  | _ => 0

/-- The same, its numbers being right in any case. -/
def HashSt (w : World) (b : Nat) (xs : List Int) : Prop := ∃ (v : S8) (tail : List Int), Blk 154 w b (hashCells v tail xs.length) ∧ St v tail xs

theorem HashSt.at {w : World} {b : Nat} {xs : List Int} (h : HashSt w b xs) : HashAt w b xs := by
  obtain ⟨v, tail, h1, h2⟩ := h
  exact ⟨v, tail, h1, h2.num ▸ hashed_ok _, h2.len, h2.rng, h2.cut, fun _ => h2.num⟩

theorem hashCells_put (v : S8) (tail ys : List Int) (n r k : Nat) (h : tail.length = 64) (hk : ys.length = k) (hr : r + k ≤ 64) : splice (hashCells v tail n) (8 + r) (ys.map (Value.int .u8)) = hashCells v (laid tail r ys) n := by
  unfold hashCells
  rw [splice_mid v.val (tail.map (Value.int .u8)) [.int .u64 (n : Int)] (ys.map (Value.int .u8)) r k (8 + r) (by rw [val_length]) (by simpa using hk) (by simpa [h] using hr)]
  simp [laid, hk, List.map_take, List.map_drop]

theorem hashCells_count (v : S8) (tail : List Int) (n m : Nat) (h : tail.length = 64) : (hashCells v tail n).set 72 (.int .u64 (m : Int)) = hashCells v tail m := by
  unfold hashCells
  rw [List.set_append_right _ _ (by simp [h, val_length])]
  simp [h, val_length]

theorem hashCells_first (v : S8) (tail : List Int) (n : Nat) (u : S8) : hashCells u tail n = (hashCells v tail n).take 0 ++ u.val ++ (hashCells v tail n).drop (0 + 8) := by
  unfold hashCells
  simp only [List.take_zero, List.nil_append, List.append_assoc]
  rw [Nat.zero_add, List.drop_append_of_le_length (by rw [val_length]; omega), List.drop_eq_nil_of_le (by rw [val_length]; omega)]
  rfl

theorem write_next {w wr w4 : World} {b j n m M : Nat} {xs ys D R T : List Int} {a' a2 : Option Addr} {c' c2 : Nat} {v' : S8} (hD : D = xs ++ ys.take j) (hR : R = ys.drop j) (hj : j ≤ ys.length) (hM : M = R.length) (ln1 : n ≤ R.length)
    (hBr : Bs wr a' c' R) (hstay2 : ∀ u, Bs u a' c' R → Bs u a2 c2 (R.drop n)) (hin2 : ∀ x', a2 = some x' → ∃ x, a' = some x ∧ x'.block = x.block) (hner : R ≠ [] → ∀ x, a' = some x → x.block ≠ b)
    (hbut : But b w wr) (h4 : But b wr w4) (hT : Tab .u32 wr 1 (ints stepNums)) (hb1 : b ≠ 1) (hblk : Blk 154 w4 b (hashCells v' T m)) (hm : m = D.length + n) (hS : St v' T (D ++ R.take n)) :
    ∃ (j : Nat) (a' : Option Addr) (c' : Nat), j ≤ ys.length ∧ Value.slice a2 (M - n) c2 = .slice a' (ys.drop j).length c' ∧ Bs w4 a' c' (ys.drop j) ∧ (ys.drop j ≠ [] → ∀ x, a' = some x → x.block ≠ b) ∧ HashSt w4 b (xs ++ ys.take j) ∧ But b w w4 ∧ Tab .u32 w4 1 (ints stepNums) := by
  have hd : R.drop n = ys.drop (j + n) := by rw [hR, List.drop_drop]
  have ht : D ++ R.take n = xs ++ ys.take (j + n) := by rw [hD, hR, List.append_assoc, List.take_add]
  have hRl : R.length = ys.length - j := by rw [hR]; simp
  have hne2 : ys.drop (j + n) ≠ [] → ∀ x, a2 = some x → x.block ≠ b := fun h0 x' hx' => by
    obtain ⟨x, hx, he⟩ := hin2 x' hx'
    rw [he]
    refine hner (fun hR0 => h0 ?_) x hx
    rw [← hd, hR0, List.drop_nil]
  refine ⟨j + n, a2, c2, by omega, by rw [hM, ← hd, List.length_drop], ?_, hne2, ⟨v', T, ?_, ht ▸ hS⟩, hbut.trans h4, hT.but h4 (Ne.symm hb1)⟩
  · have h5 := (hstay2 _ hBr)
    rw [hd] at h5
    exact h5.but h4 hne2
  · rw [← ht, List.length_append, List.length_take, Nat.min_eq_left ln1, ← hm]; exact hblk

set_option maxRecDepth 100000 in
set_option maxHeartbeats 4000000 in
theorem write_run (b : Nat) (xs : List Int) (a : Option Addr) (c : Nat) (ys : List Int) (w : World) (hH : HashAt w b xs) (hB : Bs w a c ys) (hne : ys ≠ [] → ∀ x, a = some x → x.block ≠ b) (hlen : xs.length + ys.length < 1152921504606846976)
    (hT : Tab .u32 w 1 (ints stepNums)) (hF : Tab .u32 w 0 (ints firsts8.list)) (hb1 : b ≠ 1) (hb2 : b ≠ 0) :
    Calls Tryd.prog 74 #[.pointer (some ⟨b, 0, none⟩), .slice a ys.length c] w fun e w' => e = .returned (.tuple #[]) ∧ HashSt w' b (xs ++ ys) ∧ But b w w' := by
  obtain ⟨v, tail, hblk, hok, htl, htr, hcut, hnum⟩ := hH
  have hsz : w.cell? ⟨b, 72, none⟩ = some (.int .u64 (xs.length : Int)) := by rw [hblk.cell]; exact hashCells_size _ _ _ htl
  obtain ⟨n0, hn0⟩ : ∃ n, n = xs.length := ⟨_, rfl⟩
  rw [← hn0] at hsz
  have hblk0 := hblk
  rw [← hn0] at hblk
  have HN : Hid (n0 = xs.length) := hn0
  clear hn0
  go_enter Tryd.func74, Tryd.ntmps74
  go_upto_if 11 with fail
  go_cut [12] from 10 to 15 (fun _ wc => HashSt wc b xs ∧ But b w wc)
  case first =>
    by_cases h0 : n0 = 0
    · have hx0 : xs = [] := List.eq_nil_of_length_eq_zero (HN.out ▸ h0)
      have e0 : ((n0 : Int) == 0) = true := by simp [h0]
      have fl : (ints firsts8.list).length = 8 := rfl
      have f1 : ∀ v ∈ firsts8.val, v.oneCell' = true := int_oneCell _ _
      have HX : Hid (xs = []) := hx0
      clear hx0
      go_wp2_with (first
        | (refine wpList_load_tab (by rfl) (.global 0) 146 (by rfl) 0 8 (by rfl) (isAgg_array Tryd.underlying146) (sizeOf_run (by kernel_rfl)) hF fl ?_)
        | (refine wpList_store_blk (by rfl) (.tmp 15) (.tmp 13) 146 (by rfl) b 0 8 (by rfl) firsts8.val (by rfl) (sizeOf_run (by kernel_rfl)) hblk rfl (by rw [hashCells_length _ _ _ htl]; omega) f1 _ (hashCells_first _ _ _ _) ?_
           intro w2 hb2 hbut2 hsz2))
      go_meet
      case rel =>
        refine ⟨⟨firsts8, tail, ?_, htl, htr, hcut, ?_⟩, hbut2⟩
        · rw [← HN.out]; exact hb2
        · rw [HX.out]; rfl
    · have hx0 : xs ≠ [] := fun h => h0 (by rw [HN.out, h]; rfl)
      have e0 : ((n0 : Int) == 0) = false := by simp [h0]
      have HX : Hid (xs ≠ []) := hx0
      clear hx0
      go_wp2
      go_meet
      case rel =>
        exact ⟨⟨v, tail, by rw [← HN.out]; exact hblk, htl, htr, hcut, hnum HX.out⟩, But.refl _ _⟩
  case rest =>
    obtain ⟨hst, hbut0⟩ := hcut
    have hBc := hB.but hbut0 hne
    have hTc := hT.but hbut0 (Ne.symm hb1)
    clear hsz hblk hblk0 hT hF hB htl htr hnum hok
    go_wp2
    go_loopw [1] (fun sl wr => ∃ (j : Nat) (a' : Option Addr) (c' : Nat), j ≤ ys.length ∧ sl = .slice a' (ys.drop j).length c' ∧ Bs wr a' c' (ys.drop j) ∧ (ys.drop j ≠ [] → ∀ x, a' = some x → x.block ≠ b) ∧ HashSt wr b (xs ++ ys.take j) ∧ But b w wr ∧ Tab .u32 wr 1 (ints stepNums)) (fun sl _ => lenOf sl)
    case atStart => exact ⟨0, a, c, by omega, by simp, by simpa using hBc, by simpa using hne, by simpa using hst, hbut0, hTc⟩
    case round =>
      rename_i hrel
      clear hBc hTc hst hbut0
      obtain ⟨j, a', c', hj, rfl, hBr, hner, ⟨v, tail, hblk, hS⟩, hbut, hT⟩ := hrel
      obtain ⟨D, hD⟩ : ∃ D, D = xs ++ ys.take j := ⟨_, rfl⟩
      obtain ⟨R, hR⟩ : ∃ R, R = ys.drop j := ⟨_, rfl⟩
      have hDl : D.length = xs.length + j := by rw [hD]; simp; omega
      have hRl : R.length = ys.length - j := by rw [hR]; simp
      rw [← hD] at hblk hS
      rw [← hR] at hBr hner ⊢
      by_cases hp : 0 < R.length
      · obtain ⟨L, hL⟩ : ∃ L, L = D.length := ⟨_, rfl⟩
        obtain ⟨r, hr⟩ : ∃ r, r = D.length % 64 := ⟨_, rfl⟩
        obtain ⟨n, hn⟩ : ∃ n, n = Nat.min R.length (64 - r) := ⟨_, rfl⟩
        have lr : r < 64 := by omega
        have ln : n ≤ R.length ∧ n ≤ 64 - r ∧ 0 < n := by rw [hn]; exact ⟨Nat.min_le_left _ _, Nat.min_le_right _ _, by rw [Nat.lt_min]; omega⟩
        have hsz : wr.cell? ⟨b, 72, none⟩ = some (.int .u64 (L : Int)) := by rw [hblk.cell, hL]; exact hashCells_size _ _ _ hS.len
        have e1 : (L : Int).tmod 64 = (r : Int) := by rw [Int.tmod_eq_emod_of_nonneg (by omega)]; omega
        have e1' : (L : Int) % 64 = (r : Int) := by omega
        obtain ⟨a2, c2, hrun2, hstay2, hin2⟩ := Bs.fromIn (P := Tryd.prog) wr a' c' R 43 5 Tryd.underlying43 (by kernel_rfl) (by kernel_rfl) n ln.1 hBr.cap
        obtain ⟨M, hM⟩ : ∃ M, M = R.length := ⟨_, rfl⟩
        have hp' : (0 : Int) < (M : Int) := by omega
        have hsl := slice_arr (P := Tryd.prog) (g := b) (off := 8) Tryd.underlying152 (by kernel_rfl) lr .u64
        have lr' : (r : Int) < 64 := by omega
        have HH : Hid (D = xs ++ ys.take j ∧ R = ys.drop j ∧ D.length = xs.length + j ∧ R.length = ys.length - j ∧ L = D.length ∧ r = D.length % 64 ∧ n = Nat.min R.length (64 - r) ∧ M = R.length) := ⟨hD, hR, hDl, hRl, hL, hr, hn, hM⟩
        have hnm : n = Nat.min M (64 - r) := by rw [hn, hM]
        have hcl := hashCells_length v tail D.length hS.len
        have ln1 : n ≤ R.length := ln.1
        have ln2 : 8 + r + n ≤ 73 := by omega
        have ln3 := ln.2.2
        have HNM : Hid (n = Nat.min M (64 - r)) := hnm
        rw [← hM] at hrun2 ⊢
        clear hnm hD hR hDl hRl hL hr hn hM hp
        have hlk : (R.take n).length = n := by rw [List.length_take, Nat.min_eq_left ln1]
        have hput := hashCells_put v tail (R.take n) D.length r n hS.len hlk (by omega)
        obtain ⟨T, hT2⟩ : ∃ T, T = laid tail r (R.take n) := ⟨_, rfl⟩
        have hTl : T.length = 64 := by rw [hT2, laid_length _ _ _ (by rw [hS.len, hlk]; omega), hS.len]
        rw [← hT2] at hput
        have HT2 : Hid (T = laid tail r (R.take n)) := hT2
        obtain ⟨m, hm⟩ : ∃ m, m = L + n := ⟨_, rfl⟩
        have hLn : (L : Int) + (n : Int) = (m : Int) := by omega
        have hmb : m < 1152921504606846976 := by have := HH.out; omega
        have HM : Hid (m = L + n) := hm
        have nb : (n : Int) ≤ 64 := by omega
        have HL : Hid (L = D.length) := HH.out.2.2.2.2.1
        have HPUT : Hid (splice (hashCells v tail D.length) (8 + r) ((R.take n).map (Value.int .u8)) = hashCells v T D.length) := hput
        have HCL : Hid ((hashCells v tail D.length).length = 73) := hcl
        have HLK : Hid ((R.take n).length = n) := hlk
        clear hT2 hm hput hcl hlk
        by_cases h64 : r + n = 64
        · have e2 : (m : Int).tmod 64 = 0 := by rw [Int.tmod_eq_emod_of_nonneg (by omega)]; have := HH.out; omega
          have HQ : Hid (r + n = 64) := h64
          clear h64
          go_wp2
          go_still_tail 10, (by kernel_rfl)
          go_wp2_with (refine wpList_copy_blk (by rfl) (.tmp 27) (.tmp 28) 43 43 (by rfl) 5 Tryd.underlying43 (by kernel_rfl) b (8 + r) (64 - r) (64 - r) a' M c' (by rfl) (by rfl) (t := 154) (cur := hashCells v tail D.length) hblk R n (hBr.stays (Below.refl _ _).drew) ln3 HNM.out ln1 (by rw [HCL.out]; exact ln2) ?_
                       intro w3 hb3 hbut3 hsz3
                       rw [HPUT.out, ← HL.out] at hb3
                       have hc3 : w3.cell? ⟨b, 72, none⟩ = some (.int .u64 (L : Int)) := by rw [hb3.cell]; exact hashCells_size _ _ _ hTl
                       have hf3 := hb3.free 72)
          have h5 := hb3.set 72 (.int .u64 (m : Int))
          rw [hashCells_count _ _ _ _ hTl] at h5
          have h4 : But b wr (w3.setCell ⟨b, 72, none⟩ (.int .u64 (m : Int))) := ((But.refl b wr).drew.trans hbut3).setCell 72 _
          obtain ⟨w4, hw4⟩ : ∃ w4, w4 = w3.setCell ⟨b, 72, none⟩ (.int .u64 (m : Int)) := ⟨_, rfl⟩
          rw [← hw4] at h5 h4 ⊢
          clear hw4 hb3 hbut3 hsz3 hc3 hf3
          have hl1 : v.val = ((hashCells v T m).drop 0).take 8 := by rw [List.drop_zero]; unfold hashCells; rw [List.append_assoc, List.take_append_of_le_length (by rw [val_length]; omega), List.take_of_length_le (by rw [val_length]; omega)]
          have hl2 : T.map (Value.int .u8) = ((hashCells v T m).drop 8).take 64 := by
            unfold hashCells
            rw [List.append_assoc, List.drop_append, List.drop_eq_nil_of_le (by rw [val_length]; omega), val_length, Nat.sub_self, List.drop_zero, List.nil_append, List.take_append_of_le_length (by simp [hTl]), List.take_of_length_le (by simp [hTl])]
          have hl3 : (T.map (Value.int .u8)).length = 64 := by rw [List.length_map, hTl]
          have hvok : v.Ok := hS.num ▸ hashed_ok _
          have hTr : ∀ x ∈ T, 0 ≤ x ∧ x ≤ 255 := by
            rw [HT2.out]
            exact laid_rng _ _ _ hS.rng (fun x hx => hBr.rng x (List.mem_of_mem_take hx))
          have hcall := taken_run v hvok T hTl hTr w4.drew (hT.but h4.drew (Ne.symm hb1))
          refine wp_region_any (by kernel_rfl) ?_
          change wpAny _ _ _ _ _ _ _ (World.drew _)
          refine any_take 0 rfl (some 48) rfl (.pointer (some ⟨b, 0, none⟩)) (by kernel_rfl) (by kernel_rfl) (by kernel_rfl) (fun _ _ _ h => h) (Or.inl ⟨by rfl, ?_⟩) ?_
          · intro w; go_simp
          simp only [Act.put, List.setIfInBounds_toArray, List.set_cons_succ, List.set_cons_zero]
          refine any_take 1 rfl (some 49) rfl (.pointer (some ⟨b, 0, none⟩)) (by kernel_rfl) (by kernel_rfl) (by kernel_rfl) (fun _ _ _ h => h) (Or.inl ⟨by rfl, ?_⟩) ?_
          · intro w; go_simp
          simp only [Act.put, List.setIfInBounds_toArray, List.set_cons_succ, List.set_cons_zero]
          refine any_take 2 rfl (some 50) rfl (.pointer (some ⟨b, 0, none⟩)) (by kernel_rfl) (by kernel_rfl) (by kernel_rfl) (fun _ _ _ h => h) (Or.inl ⟨by rfl, ?_⟩) ?_
          · intro w; go_simp
          simp only [Act.put, List.setIfInBounds_toArray, List.set_cons_succ, List.set_cons_zero]
          refine any_take 3 rfl (some 51) rfl (.pointer (some ⟨b, 0, none⟩)) (by kernel_rfl) (by kernel_rfl) (by kernel_rfl) (fun _ _ _ h => h) (Or.inl ⟨by rfl, ?_⟩) ?_
          · intro w; go_simp
          simp only [Act.put, List.setIfInBounds_toArray, List.set_cons_succ, List.set_cons_zero]
          refine any_take 5 rfl (some 53) rfl (.pointer (some ⟨b, 0, none⟩)) (by kernel_rfl) (by kernel_rfl) (by kernel_rfl) (fun _ _ _ h => h) (Or.inl ⟨by rfl, ?_⟩) ?_
          · intro w; go_simp
          simp only [Act.put, List.setIfInBounds_toArray, List.set_cons_succ, List.set_cons_zero]
          refine any_take 6 rfl (some 54) rfl (.pointer (some ⟨b, 0, none⟩)) (by kernel_rfl) (by kernel_rfl) (by kernel_rfl) (fun _ _ _ h => h) (Or.inl ⟨by rfl, ?_⟩) ?_
          · intro w; go_simp
          simp only [Act.put, List.setIfInBounds_toArray, List.set_cons_succ, List.set_cons_zero]
          refine any_take 7 rfl (some 55) rfl (.pointer (some ⟨b, 8, none⟩)) (by kernel_rfl) (by kernel_rfl) (by kernel_rfl) (fun _ _ _ h => h) (Or.inl ⟨by rfl, ?_⟩) ?_
          · intro w; go_simp
          simp only [Act.put, List.setIfInBounds_toArray, List.set_cons_succ, List.set_cons_zero]
          refine any_loads 4 8 (by kernel_rfl) rfl rfl rfl rfl (some 52) (some 56) rfl rfl (.tmp 51) (.tmp 55) 146 152 rfl rfl b 0 8 b 8 64 rfl rfl (isAgg_array Tryd.underlying146) (sizeOf_run (by kernel_rfl)) (isAgg_array Tryd.underlying152) (sizeOf_run (by kernel_rfl)) h5.drew h5.drew v.val (T.map (Value.int .u8)) hl1 rfl hl2 hl3 ?_ ?_
          · simp only [Act.put, List.setIfInBounds_toArray, List.set_cons_succ, List.set_cons_zero]
            refine any_load 8 (by kernel_rfl) rfl rfl (some 56) rfl (.tmp 55) 152 rfl b 8 64 rfl (isAgg_array Tryd.underlying152) (sizeOf_run (by kernel_rfl)) h5.drew (T.map (Value.int .u8)) hl2 hl3 ?_
            simp only [Act.put, List.setIfInBounds_toArray, List.set_cons_succ, List.set_cons_zero]
            refine any_call 9 (by kernel_rfl) rfl rfl (some 57) rfl 91 #[.agg v.val.toArray, .agg (T.map (Value.int .u8)).toArray] (by go_simp) hcall ?_
            rintro e w5 ⟨rfl, hb5⟩
            refine ⟨_, rfl, ?_⟩
            simp only [Act.put, List.setIfInBounds_toArray, List.set_cons_succ, List.set_cons_zero]
            refine any_take 10 rfl (some 58) rfl (.pointer (some ⟨b, 0, none⟩)) (by kernel_rfl) (by kernel_rfl) (by kernel_rfl) (fun _ _ _ h => h) (Or.inl ⟨by rfl, fun w => by go_simp⟩) ?_
            simp only [Act.put, List.setIfInBounds_toArray, List.set_cons_succ, List.set_cons_zero]
            refine any_take 11 rfl (some 59) rfl (.pointer (some ⟨b, 0, none⟩)) (by kernel_rfl) (by kernel_rfl) (by kernel_rfl) (fun _ _ _ h => h) (Or.inl ⟨by rfl, fun w => by go_simp⟩) ?_
            simp only [Act.put, List.setIfInBounds_toArray, List.set_cons_succ, List.set_cons_zero]
            refine any_store 12 (by kernel_rfl) rfl rfl none rfl (.tmp 59) (.tmp 57) 146 rfl b 0 8 rfl (takenOf v T).val rfl (sizeOf_run (by kernel_rfl)) (h5.drew.stays hb5) rfl (by rw [hashCells_length _ _ _ hTl]; omega) (int_oneCell _ _) _ (hashCells_first _ _ _ _) ?_
            intro w6 hb6 hbut6 hsz6
            refine wpAny_done (by kernel_rfl) ?_ _
            simp only [Act.put]
            go_wp2
            go_roundw
            case rel =>
              have hh := HH.out
              refine write_next hh.1 hh.2.1 hj hh.2.2.2.2.2.2.2 ln1 hBr hstay2 hin2 hner hbut (h4.drew.trans ((But.of_below hb5).trans hbut6)) hT hb1 hb6 (by rw [HM.out, HL.out]) ?_ (T := T) (m := m) (v' := takenOf v T)
              rw [HT2.out, hh.2.2.2.2.2.1]
              refine hS.full (fun x hx => hBr.rng x (List.mem_of_mem_take hx)) ?_
              have := HQ.out
              have := HLK.out
              omega
            case measure =>
              have hm1 : M - n < M := Nat.sub_lt (by omega) ln3
              exact hm1
          · simp only [Act.put, List.setIfInBounds_toArray, List.set_cons_succ, List.set_cons_zero]
            refine any_load 4 (by kernel_rfl) rfl rfl (some 52) rfl (.tmp 51) 146 rfl b 0 8 rfl (isAgg_array Tryd.underlying146) (sizeOf_run (by kernel_rfl)) h5.drew v.val hl1 rfl ?_
            simp only [Act.put, List.setIfInBounds_toArray, List.set_cons_succ, List.set_cons_zero]
            refine any_call 9 (by kernel_rfl) rfl rfl (some 57) rfl 91 #[.agg v.val.toArray, .agg (T.map (Value.int .u8)).toArray] (by go_simp) hcall ?_
            rintro e w5 ⟨rfl, hb5⟩
            refine ⟨_, rfl, ?_⟩
            simp only [Act.put, List.setIfInBounds_toArray, List.set_cons_succ, List.set_cons_zero]
            refine any_take 10 rfl (some 58) rfl (.pointer (some ⟨b, 0, none⟩)) (by kernel_rfl) (by kernel_rfl) (by kernel_rfl) (fun _ _ _ h => h) (Or.inl ⟨by rfl, fun w => by go_simp⟩) ?_
            simp only [Act.put, List.setIfInBounds_toArray, List.set_cons_succ, List.set_cons_zero]
            refine any_take 11 rfl (some 59) rfl (.pointer (some ⟨b, 0, none⟩)) (by kernel_rfl) (by kernel_rfl) (by kernel_rfl) (fun _ _ _ h => h) (Or.inl ⟨by rfl, fun w => by go_simp⟩) ?_
            simp only [Act.put, List.setIfInBounds_toArray, List.set_cons_succ, List.set_cons_zero]
            refine any_store 12 (by kernel_rfl) rfl rfl none rfl (.tmp 59) (.tmp 57) 146 rfl b 0 8 rfl (takenOf v T).val rfl (sizeOf_run (by kernel_rfl)) (h5.drew.stays hb5) rfl (by rw [hashCells_length _ _ _ hTl]; omega) (int_oneCell _ _) _ (hashCells_first _ _ _ _) ?_
            intro w6 hb6 hbut6 hsz6
            refine wpAny_done (by kernel_rfl) ?_ _
            simp only [Act.put]
            go_wp2
            go_roundw
            case rel =>
              have hh := HH.out
              refine write_next hh.1 hh.2.1 hj hh.2.2.2.2.2.2.2 ln1 hBr hstay2 hin2 hner hbut (h4.drew.trans ((But.of_below hb5).trans hbut6)) hT hb1 hb6 (by rw [HM.out, HL.out]) ?_ (T := T) (m := m) (v' := takenOf v T)
              rw [HT2.out, hh.2.2.2.2.2.1]
              refine hS.full (fun x hx => hBr.rng x (List.mem_of_mem_take hx)) ?_
              have := HQ.out
              have := HLK.out
              omega
            case measure =>
              have hm1 : M - n < M := Nat.sub_lt (by omega) ln3
              exact hm1
        · obtain ⟨q, hq⟩ : ∃ q, q = r + n := ⟨_, rfl⟩
          have e2 : (m : Int).tmod 64 = (q : Int) := by rw [Int.tmod_eq_emod_of_nonneg (by omega)]; have := HH.out; omega
          have e3 : ((q : Int) == 0) = false := by simp; omega
          have HQ : Hid (r + n ≠ 64) := h64
          clear hq h64
          go_wp2
          go_still_tail 10, (by kernel_rfl)
          go_wp2_with (refine wpList_copy_blk (by rfl) (.tmp 27) (.tmp 28) 43 43 (by rfl) 5 Tryd.underlying43 (by kernel_rfl) b (8 + r) (64 - r) (64 - r) a' M c' (by rfl) (by rfl) (t := 154) (cur := hashCells v tail D.length) hblk R n (hBr.stays (Below.refl _ _).drew) ln3 HNM.out ln1 (by rw [HCL.out]; exact ln2) ?_
                       intro w3 hb3 hbut3 hsz3
                       rw [HPUT.out, ← HL.out] at hb3
                       have hc3 : w3.cell? ⟨b, 72, none⟩ = some (.int .u64 (L : Int)) := by rw [hb3.cell]; exact hashCells_size _ _ _ hTl
                       have hf3 := hb3.free 72)
          go_roundw
          case rel =>
            have hh := HH.out
            refine write_next hh.1 hh.2.1 hj hh.2.2.2.2.2.2.2 ln1 hBr hstay2 hin2 hner hbut (((But.refl b wr).drew.trans hbut3).setCell 72 _) hT hb1 ?_ (by rw [HM.out, HL.out]) ?_ (T := T) (m := m) (v' := v)
            · have h5 := hb3.set 72 (.int .u64 (m : Int))
              rw [hashCells_count _ _ _ _ hTl] at h5
              exact h5
            · rw [HT2.out, hh.2.2.2.2.2.1]
              refine hS.part (fun x hx => hBr.rng x (List.mem_of_mem_take hx)) ?_
              have := HQ.out
              have := HLK.out
              omega
          case measure => simp only [lenOf]; omega
      · have hR0 : R.length = 0 := by omega
        have hfin : HashSt wr b (xs ++ ys) := by
          have h1 : ys.take j = ys := List.take_of_length_le (by omega)
          rw [h1] at hD
          exact ⟨v, tail, hD ▸ hblk, hD ▸ hS⟩
        have hz : ¬ ((0 : Int) < (R.length : Int)) := by omega
        clear hD hR hDl hRl
        go_wp2
        go_end0
        exact ⟨rfl, hfin, hbut⟩
end Go.Proofs.YtjfoidilecognaaDoor
