/-
  The document's answer for package sha: the padded bytes.
-/
import Derived.Test.YteocmmmnfbabaaaDoorPadding
namespace Go.Proofs.YteocmmmnfbabaaaDoor
set_option linter.unusedSimpArgs false
set_option linter.unusedVariables false
set_option maxRecDepth 100000
open Go.RowKit

def lenV : Value → Nat
  | .slice _ n _ => n
  | _ => 0

theorem pad_split (xs : List Int) : xs ++ padOf xs.length = ((xs ++ [128]) ++ List.replicate ((119 - xs.length % 64) % 64) 0) ++ lastBytes xs.length := by
  simp [padOf, lastBytes, padByte]
theorem lastBytes_take (n k : Nat) (hk : k < 8) : (lastBytes n).take (k + 1) = (lastBytes n).take k ++ [((padByte n (7 - k) : Nat) : Int)] := by
  rw [List.take_add_one]
  congr 1
  simp [lastBytes, hk]
theorem lastBytes_rng (n : Nat) : ∀ x ∈ lastBytes n, 0 ≤ x ∧ x ≤ 255 := by
  intro x hx
  obtain ⟨i, _, rfl⟩ := List.mem_map.1 hx
  have := Nat.mod_lt (n * 8 / 2 ^ (8 * (7 - i))) (show 0 < 256 by decide)
  unfold padByte
  omega

theorem owns_ge {w : World} {base : Nat} {e : TypeId} {a : Option Addr} {m c n : Nat} {xs : List Value} (h : w.ownsRow base e 1 (.slice a m c) n xs) (x : Addr) (hx : a = some x) : base ≤ x.block := by
  subst hx
  rcases h.2 with ⟨h1, _⟩ | ⟨g, cap, cur, h1, h2, _⟩
  · cases h1
  · cases h1; exact h2

set_option maxRecDepth 100000 in
set_option maxHeartbeats 2000000 in
theorem padded_run (a : Option Addr) (c : Nat) (xs : List Int) (w : World) (hB : Bs w a c xs) (hlen : xs.length < 1000000000000) :
    Calls Tryd.prog 66 #[.slice a xs.length c] w fun e w' => ∃ a' c', e = .returned (.slice a' (xs ++ padOf xs.length).length c') ∧ Bs w' a' c' (xs ++ padOf xs.length) ∧ (∀ x, a' = some x → w.heap.size ≤ x.block) ∧ Below w.heap.size w w' := by
  obtain ⟨i0, hi, hz0, hz1, hz2⟩ : ∃ i, Tryd.prog.info? 5 = some i ∧ i.zero = some (.int .u8 0) ∧ i.size = 1 ∧ i.bytes = 1 := ⟨_, rfl, rfl, rfl, rfl⟩
  obtain ⟨N, hN⟩ : ∃ N, N = xs.length := ⟨_, rfl⟩
  have hlN : N < 1000000000000 := by omega
  have HN : Hid (N = xs.length) := hN
  rw [← hN]
  have hB128 : ∀ u : World, Bs (u.alloc (.cells #[.int .u8 128] 5)) (some ⟨u.heap.size, 0, none⟩) 1 [128] := fun u => Bs.one u 128 ⟨by decide, by decide⟩ _
  have hB0 : ∀ u : World, Bs (u.alloc (.cells #[.int .u8 0] 5)) (some ⟨u.heap.size, 0, none⟩) 1 [0] := fun u => Bs.one u 0 ⟨by decide, by decide⟩ _
  obtain ⟨Y, hY⟩ : ∃ Y, Y = xs ++ [128] := ⟨_, rfl⟩
  have hYl : Y.length = N + 1 := by rw [hY, hN]; simp
  have HY : Hid (Y = xs ++ [128]) := hY
  clear hN hY
  go_enter Tryd.func66, Tryd.ntmps66
  go_wp2_with (at_builtin; first
    | (refine wpList_append_bytes (w0 := w) (by rfl) (.tmp 6) (.tmp 7) 27 (by rfl) w.heap.size 5 i0 Tryd.underlying27 hi hz0 hz1 hz2 _ [] (by rfl) (World.ownsRow_made w #[] 0 (Nat.le_refl _) (by decide) rfl) a N c xs (by rfl) HN.out (hB.stays ((Below.refl _ _).alloc (Nat.le_refl _) _)) (by have := HN.out; simp; omega) (by simp) ((Below.refl _ _).alloc (Nat.le_refl _) _) ?_
       rw [List.nil_append]
       intro v1 w1 hown1 hb1
       have hs1 := hb1.size)
    | (refine wpList_append_bytes (w0 := w) (by rfl) (.tmp 9) (.tmp 10) 27 (by rfl) w.heap.size 5 i0 Tryd.underlying27 hi hz0 hz1 hz2 _ xs (by rfl) (hown1.alloc _) (some ⟨w1.heap.size, 0, none⟩) 1 1 [128] (by rfl) (by rfl) (hB128 _) (by have := HN.out; simp; omega) (by simp; omega) (hb1.alloc hs1 _) ?_
       rw [← HY.out]
       intro v2 w2 hown2 hb2
       have hs2 := hb2.size))
  obtain ⟨nz, hnz⟩ : ∃ z, z = (119 - N % 64) % 64 := ⟨_, rfl⟩
  have lz : nz < 64 := by omega
  have hYr : ∀ x ∈ Y, 0 ≤ x ∧ x ≤ 255 := by
    rw [HY.out]
    intro x hx
    rcases List.mem_append.1 hx with h | h
    · exact hB.rng x h
    · rw [List.mem_singleton.1 h]; decide
  have hzr : ∀ j, ∀ x ∈ Y ++ List.replicate j 0, 0 ≤ x ∧ x ≤ 255 := fun j x hx => by
    rcases List.mem_append.1 hx with h | h
    · exact hYr x h
    · rw [List.eq_of_mem_replicate h]; decide
  go_loopw [3] (fun v wr => ∃ j : Nat, j ≤ nz ∧ wr.ownsRow w.heap.size 5 1 v (Y ++ List.replicate j 0).length ((Y ++ List.replicate j 0).map (Value.int .u8)) ∧ Below w.heap.size w wr) (fun v _ => N + 1 + nz - lenV v)
  case atStart => exact ⟨0, by omega, by simpa using hown2, hb2⟩
  case round =>
    clear hown1 hown2 hb1 hb2 hs1 hs2
    rename_i hrel
    obtain ⟨j, hj, hown, hbel⟩ := hrel
    have hsr := hbel.size
    obtain ⟨Z, hZ⟩ : ∃ Z, Z = Y ++ List.replicate j 0 := ⟨_, rfl⟩
    have hZl : Z.length = N + 1 + j := by rw [hZ, List.length_append, hYl, List.length_replicate]
    rw [← hZ] at hown
    obtain ⟨a3, c3, rfl, hB3⟩ := Bs.of_owns hown (hZ ▸ hzr j)
    obtain ⟨M, hM⟩ : ∃ M, M = Z.length := ⟨_, rfl⟩
    by_cases hlt : j < nz
    · have e1 : ((M : Int).tmod 64 == 56) = false := by rw [Int.tmod_eq_emod_of_nonneg (by omega)]; simp; omega
      have e2 : ((M : Int) % 64 == 56) = false := by simp; omega
      have HZ : Hid (Y ++ List.replicate (j + 1) 0 = Z ++ [0]) := by unfold Hid; rw [hZ, List.replicate_succ', List.append_assoc]
      have HZl : Hid (M = N + 1 + j) := by unfold Hid; rw [hM, hZl]
      have HM : Hid (M = Z.length) := hM
      have hownM : wr.ownsRow w.heap.size 5 1 (.slice a3 M c3) Z.length (Z.map (Value.int .u8)) := by rw [hM]; exact hown
      rw [← hM]
      clear hZ hZl hM hYl hnz hown
      go_wp2_with (at_builtin; go_must (refine wpList_append_bytes (w0 := w) (by rfl) (.tmp 16) (.tmp 17) 27 (by rfl) w.heap.size 5 i0 Tryd.underlying27 hi hz0 hz1 hz2 _ Z (by rfl) (hownM.alloc _) (some ⟨wr.heap.size, 0, none⟩) 1 1 [0] (by rfl) (by rfl) (hB0 _) (by have := HZl.out; have := HM.out; simp; omega) (by simp; omega) (hbel.alloc hsr _) ?_); intro v4 w4 hown4 hb4)
      go_roundw
      case rel => exact ⟨j + 1, by omega, by rw [HZ.out]; exact hown4, hb4⟩
      case measure =>
        obtain ⟨a4, c4, rfl, _⟩ := Bs.of_owns hown4 (HZ.out ▸ hzr (j + 1))
        have := HZl.out
        have := HM.out
        simp [lenV]
        omega
    · have e1 : ((M : Int).tmod 64 != 56) = false := by rw [Int.tmod_eq_emod_of_nonneg (by omega)]; simp; omega
      have e2 : ((M : Int) % 64 != 56) = false := by simp; omega
      have hjz : j = nz := by omega
      have HP : Hid (xs ++ padOf N = Z ++ lastBytes N) := by
        unfold Hid
        have h := pad_split xs
        rw [← HN.out, ← HY.out, ← hnz, ← hjz, ← hZ] at h
        exact h
      have hZr := hZ ▸ hzr j
      have hownM : wr.ownsRow w.heap.size 5 1 (.slice a3 M c3) (Z ++ (lastBytes N).take 0).length ((Z ++ (lastBytes N).take 0).map (Value.int .u8)) := by rw [List.take_zero, List.append_nil, hM]; exact hown
      have hM2 : M < 1000000000100 := by omega
      have HM : Hid (M = Z.length) := hM
      rw [← hM]
      clear hZ hZl hM hYl hnz hown hjz
      go_wp2
      have hlr : ∀ k, ∀ x ∈ Z ++ (lastBytes N).take k, 0 ≤ x ∧ x ≤ 255 := fun k x hx => by
        rcases List.mem_append.1 hx with h | h
        · exact hZr x h
        · exact lastBytes_rng N x (List.mem_of_mem_take h)
      clear e1 e2
      go_loopw [3, 5] (fun v i wr => ∃ k : Nat, k ≤ 8 ∧ i = .int .i64 (7 - (k : Int)) ∧ wr.ownsRow w.heap.size 5 1 v (Z ++ (lastBytes N).take k).length ((Z ++ (lastBytes N).take k).map (Value.int .u8)) ∧ Below w.heap.size w wr) (fun _ i _ => (intOf i + 1).toNat)
      case atStart => exact ⟨0, by omega, rfl, hownM, hbel⟩
      case round =>
        clear hownM hbel hsr hB3
        rename_i hrel
        obtain ⟨k, hk, rfl, hown, hbel⟩ := hrel
        have hsr := hbel.size
        by_cases hlk : k < 8
        · obtain ⟨F, hF⟩ : ∃ F, F = Z ++ (lastBytes N).take k := ⟨_, rfl⟩
          have hFl : F.length ≤ M + 8 := by rw [hF, List.length_append, ← HM.out, List.length_take]; omega
          rw [← hF] at hown
          obtain ⟨q, hq⟩ : ∃ q, q = 7 - k := ⟨_, rfl⟩
          have hq7 : (7 : Int) - (k : Int) = (q : Int) := by omega
          rw [hq7]
          have lq : q < 8 := by omega
          obtain ⟨y, hy⟩ : ∃ y, y = N * 8 / 2 ^ (8 * q) := ⟨_, rfl⟩
          obtain ⟨x, hx⟩ : ∃ x, x = padByte N q := ⟨_, rfl⟩
          have e4 : (N : Int) * 8 / 2 ^ (8 * q) = (y : Int) := by
            rw [hy, Int.natCast_ediv, Int.natCast_mul, Int.natCast_pow]; rfl
          have e5 : (y : Int) % 256 = (x : Int) := by rw [hx, padByte, ← hy]; omega
          have lx : x < 256 := by rw [hx]; exact Nat.mod_lt _ (by decide)
          have HX : Hid (Z ++ (lastBytes N).take (k + 1) = F ++ [(x : Int)]) := by
            unfold Hid
            rw [lastBytes_take N k hlk, ← List.append_assoc, ← hF, ← hq, ← hx]
          have hBx : ∀ u : World, Bs (u.alloc (.cells #[.int .u8 (x : Int)] 5)) (some ⟨u.heap.size, 0, none⟩) 1 [(x : Int)] := fun u => Bs.one u x ⟨by omega, by omega⟩ _
          have HQ : Hid (q = 7 - k) := hq
          clear hF hq hx hy hq7
          go_wp2_with (at_builtin; go_must (refine wpList_append_bytes (w0 := w) (by rfl) (.tmp 27) (.tmp 34) 27 (by rfl) w.heap.size 5 i0 Tryd.underlying27 hi hz0 hz1 hz2 _ F (by rfl) (hown.alloc _) (some ⟨wr.heap.size, 0, none⟩) 1 1 [(x : Int)] (by rfl) (by rfl) (hBx _) (by simp; omega) (by simp; omega) (hbel.alloc hsr _) ?_); intro v4 w4 hown4 hb4)
          go_roundw
          case rel =>
            refine ⟨k + 1, by omega, ?_, by rw [HX.out]; exact hown4, hb4⟩
            congr 1
            have := HQ.out
            omega
          case measure => have := HQ.out; simp [intOf]; try omega
        · obtain ⟨a4, c4, rfl, hB4⟩ := Bs.of_owns hown (hlr k)
          have hge := owns_ge hown
          have e8 : Z ++ (lastBytes N).take k = xs ++ padOf N := by
            rw [HP.out, List.take_of_length_le (by simp [lastBytes]; omega)]
          rw [e8] at hB4
          obtain ⟨T, hT⟩ : ∃ T, T = (xs ++ padOf N).length := ⟨_, rfl⟩
          clear hown
          rw [e8, ← hT]
          have hneg : ¬ ((0 : Int) ≤ 7 - (k : Int)) := by omega
          have HT : Hid (T = (xs ++ padOf N).length) := hT
          clear hT e8
          go_wp2
          go_ret
          exact ⟨a4, c4, by show Ending.returned (Value.slice a4 T c4) = _; rw [HT.out]; simp [← HN.out], hB4, hge, hbel⟩
end Go.Proofs.YteocmmmnfbabaaaDoor
