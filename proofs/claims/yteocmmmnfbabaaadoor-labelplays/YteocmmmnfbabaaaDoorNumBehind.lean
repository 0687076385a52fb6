/-
  The walks over num.behind and num.fresh.
-/
import Derived.Test.YteocmmmnfbabaaaDoorNumBase
namespace Go.Proofs.YteocmmmnfbabaaaDoor
set_option linter.unusedSimpArgs false
set_option linter.unusedVariables false
open Go.RowKit

theorem own_from {g n : Nat} (k : Nat) (hk : k ≤ n) : ∃ A, (∀ w' : World, (Instr.slice 27 (.slice (some ⟨g, 0, none⟩) n n) (some (.int .i64 k)) none none).run Tryd.prog w' = .ok (.slice A (n - k) (n - k)) w') ∧ (k < n → A = some ⟨g, k, none⟩) := by
  refine ⟨if n = k then some ⟨g, 0, none⟩ else (some (⟨g, 0, none⟩ : Addr)).map (·.add (k * 1)), fun w' => ?_, fun h => ?_⟩
  · have hz : (sizeOf 5).run Tryd.prog w' = .ok 1 w' := by
      obtain ⟨i, hi, h1⟩ := Option.map_eq_some_iff.1 Tryd.size5
      simp [sizeOf, typeInfo, hi, h1, go_sem]
    rw [run_slice_l w' 27 _ n n (by rw [Tryd.elem27]; exact Tryd.underlying27) .i64 k (by omega) (by omega), Tryd.elem27, hz]
    simp [Result.andThen, sliced]
  · rw [if_neg (by omega)]; simp [Addr.add]; omega

set_option maxRecDepth 100000 in
theorem behind_row (a : Option Addr) (c : Nat) (xs : List Int) (pa : Option Addr) (pc : Nat) (ps : List NPart) (w : World) (hB : Bs w a c xs) (hP : Ps w pa ps) (hlen : (xs ++ flat ps).length ≤ 1000000) (hps : ps.length ≤ 1000) :
    Calls Tryd.prog 62 #[.slice a xs.length c, .slice pa ps.length pc] w fun e w' => e = .returned (.slice (some ⟨w.heap.size, 0, none⟩) (xs ++ flat ps).length (xs ++ flat ps).length) ∧ Row 5 w' w.heap.size (xs ++ flat ps) ∧ Below w.heap.size w w' := by
  obtain ⟨i0, hi, hz0, hz1, hz2⟩ := info_parts Tryd.info5
  have hl2 : xs.length + (flat ps).length ≤ 1000000 := by simpa using hlen
  go_enter Tryd.func62, Tryd.ntmps62
  go_wp2
  go_loop [5, 16] (fun s i => ∃ k : Nat, k ≤ ps.length ∧ i = .int .i64 k ∧ s = .int .i64 ((xs.length + (flat (ps.take k)).length : Nat) : Int)) (fun _ i => ps.length - (intOf i).toNat)
  case atStart => exact ⟨0, Nat.zero_le _, rfl, rfl⟩
  case round =>
    obtain ⟨k, hk, rfl, rfl⟩ := hrel
    have hfl := flat_take_le ps k
    by_cases hlt : k < ps.length
    · have hne : ¬ ps = [] := by intro h; simp [h] at hlt
      rcases hP.lay with h | ⟨b, off, hpa, hc⟩
      · exact absurd h hne
      have hix : ∀ w' : World, (Instr.indexAt 118 (.slice pa ps.length pc) (.int .i64 k)).run Tryd.prog w' = .ok (.pointer (some ⟨b, off + k, none⟩)) w' := fun w' => by
        rw [hpa]; exact index_run 118 27 Tryd.underlying118 (by kernel_rfl) (by kernel_rfl) b off ps.length pc .i64 k hlt w'
      obtain ⟨p, hp⟩ : ∃ p, ps[k] = p := ⟨_, rfl⟩
      have hcell : w.cell? ⟨b, off + k, none⟩ = some (.slice p.a p.xs.length p.c) := by rw [hc k hlt, hp]; rfl
      have hs := flat_take_succ ps k hlt
      have hfl2 := flat_take_le ps (k + 1)
      rw [hs, hp] at hfl2
      have hpl : (flat (ps.take k)).length + p.xs.length ≤ 1000000 := by simp at hfl2; omega
      have HS : Hid (flat (ps.take (k + 1)) = flat (ps.take k) ++ p.xs) := by rw [← hp]; exact hs
      clear hs hpa hc hne hp hfl2 hlen hP hB
      go_wp2
      go_round
      case rel => exact ⟨k + 1, by omega, by go_num, by rw [HS.out]; simp only [List.length_append]; go_num⟩
      case measure => simp [intOf]; omega
    · have hkl : k = ps.length := by omega
      obtain ⟨N, hN⟩ : ∃ N, N = (xs ++ flat ps).length := ⟨_, rfl⟩
      have hNk : xs.length + (flat (ps.take k)).length = N := by rw [hN, hkl, List.take_length]; simp
      have hN2 : N ≤ 1000000 := by omega
      have HN : Hid (N = (xs ++ flat ps).length) := hN
      clear hN hkl
      go_wp2_with (first
        | (at_make; go_must (refine wpList_make_bytes (w0 := w) (by rfl) _ _ 27 (by rfl) w.heap.size 5 i0 Tryd.underlying27 hi hz0 hz1 hz2 _ _ _ _ N (by rfl) (by rfl) (by omega) (by omega) (by omega) (Nat.le_refl _) (Below.refl _ _) ?_); intro w1 hrow1 hb1)
        | (refine wpList_copy_bytes (w0 := w) (by rfl) (.tmp 27) (.tmp 28) 27 27 (by rfl) 5 Tryd.underlying27 Tryd.size5 _ _ N N xs.length c (by rfl) (by rfl) w.heap.size [] (List.replicate N 0) xs hrow1 (fun _ => rfl) (by simp) rfl (by simp; omega) (hB.stays hb1) w.heap.size hb1 (Nat.le_refl _) ?_; intro w2 hrow2 hb2; clear hrow1 hb1))
      go_loopw [9, 32] (fun s i wr => ∃ (j : Nat) (free : List Int), j ≤ ps.length ∧ i = .int .i64 j ∧ s = .int .i64 ((xs ++ flat (ps.take j)).length : Int) ∧ Hid ((xs ++ flat (ps.take j)).length + free.length = N) ∧ Row 5 wr w.heap.size ((xs ++ flat (ps.take j)) ++ free) ∧ Below w.heap.size w wr) (fun _ i _ => ps.length - (intOf i).toNat)
      case atStart => exact ⟨0, (List.replicate N 0).drop xs.length, Nat.zero_le _, rfl, by simp [flat], by show _ = _; simp [flat]; omega, by simpa [flat] using hrow2, hb2⟩
      case round =>
        obtain ⟨j, free, hj, rfl, rfl, hfree, hrow, hb⟩ := hrel
        obtain ⟨D, hD⟩ : ∃ D, D = xs ++ flat (ps.take j) := ⟨_, rfl⟩
        rw [← hD] at hfree hrow
        rw [← hD]
        have HD : Hid (D = xs ++ flat (ps.take j)) := hD
        clear hD
        have hf := hfree.out
        by_cases hlt : j < ps.length
        · have hne : ¬ ps = [] := by intro h; simp [h] at hlt
          rcases hP.lay with h | ⟨b, off, hpa, hc⟩
          · exact absurd h hne
          have hix : ∀ w' : World, (Instr.indexAt 118 (.slice pa ps.length pc) (.int .i64 j)).run Tryd.prog w' = .ok (.pointer (some ⟨b, off + j, none⟩)) w' := fun w' => by
            rw [hpa]; exact index_run 118 27 Tryd.underlying118 (by kernel_rfl) (by kernel_rfl) b off ps.length pc .i64 j hlt w'
          obtain ⟨p, hp⟩ : ∃ p, ps[j] = p := ⟨_, rfl⟩
          have hpB : Bs w p.a p.c p.xs := hP.bs p (by rw [← hp]; exact List.getElem_mem hlt)
          have hcw : w.cell? ⟨b, off + j, none⟩ = some (.slice p.a p.xs.length p.c) := by rw [hc j hlt, hp]; rfl
          have hcell : wr.cell? ⟨b, off + j, none⟩ = some (.slice p.a p.xs.length p.c) := by rw [hb.cell (World.block_lt_of_cell? w _ hcw)]; exact hcw
          have hs := flat_take_succ ps j hlt
          have HS : Hid (xs ++ flat (ps.take (j + 1)) = D ++ p.xs) := by show _ = _; rw [hs, hp, HD.out]; simp
          have hfl2 := flat_take_le ps (j + 1)
          have hpl : D.length + p.xs.length ≤ N := by
            have h1 := congrArg List.length HS.out
            have h2 := HN.out
            simp at h1 h2
            omega
          obtain ⟨A, hsl, hA⟩ := own_from (g := w.heap.size) (n := N) D.length (by omega)
          clear hs hpa hc hne hp hfl2 hlen hcw hP hB HN
          go_wp2_with (refine wpList_copy_bytes (w0 := w) (by rfl) (.tmp 39) (.tmp 40) 27 27 (by rfl) 5 Tryd.underlying27 Tryd.size5 _ _ (N - D.length) (N - D.length) p.xs.length p.c (by rfl) (by rfl) w.heap.size D free p.xs hrow (fun h => hA (by simp at h; omega)) (by omega) rfl (by omega) (hpB.stays hb) w.heap.size hb (Nat.le_refl _) ?_; intro w3 hrow3 hb3; clear hrow hb)
          go_roundw
          case rel => exact ⟨j + 1, free.drop p.xs.length, by omega, by go_num, by rw [HS.out]; simp only [List.length_append]; go_num, by show _ = _; rw [HS.out]; simp; omega, by rw [HS.out]; exact hrow3, hb3⟩
          case measure => simp [intOf]; omega
        · have hfin : D = xs ++ flat ps := by rw [HD.out]; congr 2; exact List.take_of_length_le (by omega)
          have hN := HN.out
          have hfree0 : free = [] := List.eq_nil_of_length_eq_zero (by rw [hfin] at hf; omega)
          rw [hfree0, hfin, List.append_nil] at hrow
          have HBs : Hid (Row 5 wr w.heap.size (xs ++ flat ps)) := hrow
          have HN' : Hid ((xs ++ flat ps).length = N) := hN.symm
          clear hN hfin hrow HN
          go_wp2
          go_ret
          refine ⟨?_, HBs.out, hb⟩
          rw [HN'.out]; rfl

theorem behind_any (a : Option Addr) (c : Nat) (xs : List Int) (pa : Option Addr) (pc : Nat) (ps : List NPart) (w : World) (hB : Bs w a c xs) (hP : Ps w pa ps) (hlen : (xs ++ flat ps).length ≤ 1000000) (hps : ps.length ≤ 1000) :
    Calls Tryd.prog 62 #[.slice a xs.length c, .slice pa ps.length pc] w fun e w' => ∃ a' c', e = .returned (.slice a' (xs ++ flat ps).length c') ∧ Bs w' a' c' (xs ++ flat ps) ∧ Below w.heap.size w w' := by
  refine (behind_row a c xs pa pc ps w hB hP hlen hps).mono ?_
  rintro e w' ⟨rfl, hr, hb⟩
  refine ⟨_, _, rfl, hr.bs ?_ (by unfold maxLen; omega), hb⟩
  intro x hx
  rcases List.mem_append.1 hx with hx | hx
  · exact hB.rng x hx
  · exact flat_rng (fun p hp => (hP.bs p hp).rng) x hx

theorem fresh_any (a : Option Addr) (c : Nat) (xs : List Int) (w : World) (hB : Bs w a c xs) (hlen : xs.length ≤ 1000000) :
    Calls Tryd.prog 69 #[.slice a xs.length c] w fun e w' => ∃ a' c', e = .returned (.slice a' xs.length c') ∧ Bs w' a' c' xs ∧ Below w.heap.size w w' := by
  have hb := behind_any a c xs none 0 [] w hB (Ps.empty w) (by simpa [flat] using hlen) (by simp)
  simp only [flat, List.append_nil, List.length_nil] at hb
  go_enter Tryd.func69, Tryd.ntmps69
  go_wp2_with (go_at_call 62; go_must (refine hb.mono ?_); rintro e w' ⟨a', c', rfl, hB', hb'⟩)
  go_ret
  exact ⟨a', c', rfl, hB', hb'⟩

theorem fresh_at (a : Option Addr) (c n : Nat) (xs : List Int) (w : World) (hn : n = xs.length) (hB : Bs w a c xs) (hlen : xs.length ≤ 1000000) :
    Calls Tryd.prog 69 #[.slice a n c] w fun e w' => ∃ a' c', e = .returned (.slice a' xs.length c') ∧ Bs w' a' c' xs ∧ Below w.heap.size w w' := by
  subst hn; exact fresh_any a c xs w hB hlen

/-- num.fresh: the bytes lie in a new block. -/
theorem fresh_new (a : Option Addr) (c n : Nat) (xs : List Int) (w : World) (hn : n = xs.length) (hB : Bs w a c xs) (hlen : xs.length ≤ 1000000) :
    Calls Tryd.prog 69 #[.slice a n c] w fun e w' => ∃ a' c', e = .returned (.slice a' xs.length c') ∧ Bs w' a' c' xs ∧ Below w.heap.size w w' ∧ ∀ b, a' = some b → w.heap.size ≤ b.block := by
  subst hn
  have hb := behind_row a c xs none 0 [] w hB (Ps.empty w) (by simpa [flat] using hlen) (by simp)
  simp only [flat, List.append_nil, List.length_nil] at hb
  go_enter Tryd.func69, Tryd.ntmps69
  go_wp2_with (go_at_call 62; go_must (refine hb.mono ?_); rintro e w' ⟨rfl, hr, hb'⟩)
  go_ret
  exact ⟨_, _, rfl, hr.bs hB.rng (by unfold maxLen; omega), hb', fun b h => by cases h; exact Nat.le_refl _⟩
end Go.Proofs.YteocmmmnfbabaaaDoor
