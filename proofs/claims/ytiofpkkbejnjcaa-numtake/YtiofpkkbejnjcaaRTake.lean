/-
  The walk over the document's own Take.
-/
import Derived.Test.YtiofpkkbejnjcaaRTakes
namespace Go.Proofs.Ytiofpkkbejnjcaa
set_option linter.unusedSimpArgs false
set_option linter.unusedVariables false
open Go.RowKit

theorem lead_iff {xs : List Int} (hr : ∀ x ∈ xs, 0 ≤ x ∧ x ≤ 255) (m k : Nat) (hm : m < 18446744073709551616) (hk : k < xs.length) : leb m = xs.take (k + 1) ↔ leadL 0 0 xs = (m, k + 1, 0) := by
  constructor
  · intro h
    have hx : xs = leb m ++ xs.drop (k + 1) := by rw [h, List.take_append_drop]
    have hl : (leb m).length = k + 1 := by rw [h]; simp; omega
    have := lead_back m 0 0 (xs.drop (k + 1)) (by simpa using hm) (by decide) (by simp)
    rw [← hx] at this
    rw [this, hl]
    simp
  · intro h
    obtain ⟨_, q, hq, ht, _⟩ := lead_only xs 0 0 m (k + 1) hr h
    have : m = q := by simpa using hq
    rw [this]; exact ht.symm

theorem strOfNums_inj {xs ys : List Int} (hx : ∀ x ∈ xs, 0 ≤ x ∧ x ≤ 255) (hy : ∀ y ∈ ys, 0 ≤ y ∧ y ≤ 255) (h : strOfNums xs = strOfNums ys) : xs = ys := by
  have h1 : xs.map (fun n => UInt8.ofNat n.toNat) = ys.map (fun n => UInt8.ofNat n.toNat) := by
    have := congrArg (fun s : ByteArray => s.data.toList) h
    simpa [strOfNums] using this
  clear h
  induction xs generalizing ys with
  | nil => cases ys with
    | nil => rfl
    | cons y ys => simp at h1
  | cons x xs ih => cases ys with
    | nil => simp at h1
    | cons y ys =>
      simp only [List.map_cons, List.cons.injEq] at h1
      have hx0 := hx x (by simp)
      have hy0 := hy y (by simp)
      have e := congrArg UInt8.toNat h1.1
      simp only [UInt8.toNat_ofNat'] at e
      rw [ih (fun z hz => hx z (by simp [hz])) (fun z hz => hy z (by simp [hz])) h1.2]
      have : x = y := by omega
      rw [this]

theorem addStep (m k : Nat) (x : Int) (hx0 : 0 ≤ x) (hx1 : x ≤ 255) :
    IntKind.u64.wrap ((m : Int) + IntKind.u64.wrap (x % 128 * 2 ^ (7 * k))) = (((m + (x % 128).toNat * 128 ^ k) % 18446744073709551616 : Nat) : Int) := by
  obtain ⟨y, hy⟩ : ∃ y : Nat, x % 128 = (y : Int) := ⟨(x % 128).toNat, by omega⟩
  have hp : (2 : Int) ^ (7 * k) = ((128 ^ k : Nat) : Int) := by
    rw [show (128 : Nat) = 2 ^ 7 by decide, ← Nat.pow_mul]; simp
  have e : ∀ z : Int, IntKind.u64.wrap z = z % 18446744073709551616 := fun z => by simp [IntKind.wrap, IntKind.bits, IntKind.signed]
  rw [e, e, hy, hp, ← Int.natCast_mul, Int.toNat_natCast]
  generalize y * 128 ^ k = q
  omega

/-- What is known where a byte below 128 comes up. -/
theorem last_cases {xs : List Int} {k m : Nat} {x : Int} (hx0 : 0 ≤ x) (hx : x < 128) (hk : k ≤ 9) (hm : m < 128 ^ k) (hl : leadL 0 0 xs = leadL k m (x :: xs.drop (k + 1))) :
    leadL 0 0 xs = ((m + (x % 128).toNat * 128 ^ k) % 18446744073709551616, k + 1, 0) ∨ leadL 0 0 xs = (0, 0, 3) := by
  by_cases h1 : k = 9 ∧ 1 < x
  · right; rw [hl, leadL_over _ _ _ _ h1.1 h1.2]
  · by_cases h3 : x = 0 ∧ 0 < k
    · right; rw [hl, leadL_zero _ _ _ _ h3.1 h3.2]
    · left
      rw [hl, leadL_last _ _ _ _ h1 hx h3]
      have hlt : m + (x % 128).toNat * 128 ^ k < 18446744073709551616 := by
        have h9 : 128 ^ k ≤ 128 ^ 9 := Nat.pow_le_pow_right (by decide) hk
        by_cases hk9 : k = 9
        · subst hk9
          have : (x % 128).toNat ≤ 1 := by omega
          have := Nat.mul_le_mul_right (128 ^ 9) this
          omega
        · have h8 : 128 ^ (k + 1) ≤ 128 ^ 9 := Nat.pow_le_pow_right (by decide) (by omega)
          have := pow_step hm (show (x % 128).toNat < 128 by omega)
          omega
      rw [Nat.mod_eq_of_lt hlt]

theorem more_cases {xs : List Int} {k m : Nat} {x : Int} (hx0 : 128 ≤ x) (hx1 : x ≤ 255) (hk : k ≤ 9) (hm : m < 128 ^ k) (hl : leadL 0 0 xs = leadL k m (x :: xs.drop (k + 1))) :
    (k + 1 ≤ 9 → (m + (x % 128).toNat * 128 ^ k) % 18446744073709551616 < 128 ^ (k + 1) ∧ leadL 0 0 xs = leadL (k + 1) ((m + (x % 128).toNat * 128 ^ k) % 18446744073709551616) (xs.drop (k + 1))) ∧ (k + 1 = 10 → leadL 0 0 xs = (0, 0, 3)) := by
  constructor
  · intro h
    have h1 := pow_step hm (show (x % 128).toNat < 128 by omega)
    have h8 : 128 ^ (k + 1) ≤ 128 ^ 9 := Nat.pow_le_pow_right (by decide) (by omega)
    rw [Nat.mod_eq_of_lt (by omega)]
    exact ⟨h1, by rw [hl, leadL_more _ _ _ _ (by omega) hx0]⟩
  · intro h
    rw [hl, leadL_over _ _ _ _ (by omega) (by omega)]

theorem rtake_any (a : Option Addr) (c : Nat) (xs : List Int) (w : World) (hB : Bs w a c xs) (hlen : xs.length ≤ 1000000) :
    Calls Try.prog 16 #[.slice a xs.length c] w fun e w' => ∃ a1 c1, e = .returned (.tuple #[.int .u64 (takeL xs).1, .slice a1 (takeL xs).2.1.length c1, .int .i64 (takeL xs).2.2]) ∧ Bs w' a1 c1 (takeL xs).2.1 ∧ Below w.heap.size w w' := by
  go_enter Try.func16, Try.ntmps16
  go_wp2
  go_loopw [5, 6] (fun n i wr => ∃ (k : Nat) (m : Nat), k ≤ xs.length ∧ k ≤ 10 ∧ i = .int .i64 k ∧ n = .int .u64 m ∧ Hid (k ≤ 9 → m < 128 ^ k ∧ leadL 0 0 xs = leadL k m (xs.drop k)) ∧ Hid (k = 10 → leadL 0 0 xs = (0, 0, 3)) ∧ Below w.heap.size w wr) (fun _ i _ => xs.length - (intOf i).toNat)
  case atStart => exact ⟨0, 0, Nat.zero_le _, Nat.zero_le _, rfl, rfl, (fun _ => ⟨by decide, rfl⟩), (fun h => by simp at h), Below.refl _ _⟩
  case round =>
    obtain ⟨k, m, hk, h10, rfl, rfl, hm, hsp, hb⟩ := hrel
    by_cases hlt : k < xs.length ∧ k < 10
    · obtain ⟨hlt, hlt10⟩ := hlt
      obtain ⟨b, off, ha, hc⟩ := hB.cell (by omega)
      have hix : ∀ w' : World, (Instr.indexAt 22 (.slice a xs.length c) (.int .i64 k)).run Try.prog w' = .ok (.pointer (some ⟨b, off + k, none⟩)) w' := fun w' => by
        rw [ha]; exact index_run 22 5 Try.underlying22 Try.size5 Try.elem22 b off xs.length c .i64 k hlt w'
      have hcell : wr.cell? ⟨b, off + k, none⟩ = some (.int .u8 (xs.getD k 0)) := by rw [hb.cell (World.block_lt_of_cell? w _ (hc k hlt))]; exact hc k hlt
      obtain ⟨hx0, hx1⟩ := getD_rng hB.rng k hlt
      have hd := drop_cons hlt
      obtain ⟨x, hx⟩ : ∃ x, xs.getD k 0 = x := ⟨_, rfl⟩
      rw [hx] at hcell hx0 hx1 hd
      have hfacts := hm.out (by omega)
      have hmk := hfacts.1
      have hl := hfacts.2
      rw [hd] at hl
      have hval := addStep m k x hx0 hx1
      obtain ⟨m2, hm2⟩ : ∃ m2, (m + (x % 128).toNat * 128 ^ k) % 18446744073709551616 = m2 := ⟨_, rfl⟩
      have hmc := fun h => more_cases (xs := xs) h hx1 (by omega) hmk hl
      have hlc := fun h => last_cases (xs := xs) hx0 h (by omega) hmk hl
      rw [hm2] at hval hlc hmc
      have hm2l : m2 < 18446744073709551616 := by omega
      have HMC : Hid (128 ≤ x → (k + 1 ≤ 9 → m2 < 128 ^ (k + 1) ∧ leadL 0 0 xs = leadL (k + 1) m2 (xs.drop (k + 1))) ∧ (k + 1 = 10 → leadL 0 0 xs = (0, 0, 3))) := hmc
      have HLC : Hid (x < 128 → leadL 0 0 xs = (m2, k + 1, 0) ∨ leadL 0 0 xs = (0, 0, 3)) := hlc
      clear hc hx ha hd hl hmk hm2 hmc hlc hm hsp hfacts
      by_cases hx8 : 128 ≤ x
      · go_wp2
        go_roundw
        case rel => exact ⟨k + 1, m2, by omega, by omega, by go_num, rfl, (HMC.out hx8).1, (HMC.out hx8).2, hb⟩
        case measure => simp [intOf]; omega
      · obtain ⟨T, hT⟩ : ∃ T, xs.take (k + 1) = T := ⟨_, rfl⟩
        obtain ⟨hrun1, hB1⟩ := hB.upto (P := Try.prog) 22 5 Try.underlying22 Try.size5 Try.elem22 (k + 1) (by omega)
        rw [hT] at hB1
        have hTl : k + 1 = T.length := by rw [← hT]; simp; omega
        have hs1 : ∀ w', (Instr.slice 22 (.slice a xs.length c) none (some (.int .i64 ((k : Int) + 1))) none).run Try.prog w' = .ok (.slice a (k + 1) c) w' := fun w' => hrun1 w' _ .i64 _ (by omega)
        have hS : Hid (∀ u : World, Below wr.heap.size wr u → (convert 22 9 (.slice a (k + 1) c)).run Try.prog u = .ok (.string (strOfNums T)) u ∧ IntKind.i64.wrap ((k : Int) + 1) = (k : Int) + 1) :=
          fun u hu => ⟨conv9 ((hB1.stays hb).stays hu) _ hTl, by rw [IntKind.wrap_i64]; omega⟩
        have HTL : Hid (k + 1 = T.length) := hTl
        have HT : Hid (xs.take (k + 1) = T) := hT
        have hiff := lead_iff hB.rng m2 k hm2l hlt
        rw [hT] at hiff
        clear hrun1 hTl hT
        by_cases hE : leadL 0 0 xs = (m2, k + 1, 0)
        · have hc1 : Hid (∀ u : World, Calls Try.prog 12 #[.slice none 0 0, .int .u64 m2] u fun e w' => ∃ v, e = .returned v ∧ Below u.heap.size u w' ∧ slB T v w') :=
            fun u => calls_slB (rput_bs none 0 0 [] m2 hm2l u T (by simpa using hiff.2 hE) rfl (Bs.empty u) (by simp))
          obtain ⟨a', c', hrun2, hB2⟩ := hB.from (P := Try.prog) 22 5 Try.underlying22 Try.size5 Try.elem22 (k + 1) (by omega)
          have hs2 : ∀ w', (Instr.slice 22 (.slice a xs.length c) (some (.int .i64 ((k : Int) + 1))) none none).run Try.prog w' = .ok (.slice a' (xs.length - (k + 1)) c') w' := fun w' => hrun2 w' _ .i64 _ rfl (by omega)
          have HE : Hid (takeL xs = (m2, xs.drop (k + 1), 0)) := by show _ = _; unfold takeL; rw [hE]; rfl
          clear hrun2 hiff hE HMC HLC
          go_wp2
          refine Up.wp_region_up (Up.tell [(1, slB T)]) (by kernel_rfl) (by kernel_rfl) (Up.tell_steady _ (by
            intro p hp
            rw [List.mem_singleton.1 hp]; exact slB_steady _)) ?_
          repeat (first
            | (apply Up.wpUp_pure
               case hw => rfl
               case hψ => rfl
               case hv => (intro w1 hp; have hS1 := hS.out w1 hp.1; clear hp; go_simp; try (with_reducible rfl))
               simp only [Act.put, List.setIfInBounds_toArray, List.set_cons_zero, List.set_cons_succ]))
          refine Up.wpUp_call _ 12 #[.slice none 0 0, .int .u64 m2] (by rfl) (by rfl) (fun w1 => by go_simp) (fun w1 hp => hc1.out w1) ?_
          rintro v ⟨u, _, hf⟩
          obtain ⟨a6, c6, rfl, _⟩ := hf 1 v _ rfl rfl
          clear hf
          simp only [Act.put, List.setIfInBounds_toArray, List.set_cons_zero, List.set_cons_succ]
          repeat (first
            | (apply Up.wpUp_pure
               case hw => rfl
               case hψ => rfl
               case hv => (intro w1 hp; have hS1 := hS.out w1 hp.1; clear hp; go_simp; try (with_reducible rfl))
               simp only [Act.put, List.setIfInBounds_toArray, List.set_cons_zero, List.set_cons_succ])
            | (apply Up.wpUp_pure
               case hw => rfl
               case hψ => rfl
               case hv => (intro w1 hp; have hc := conv_of (hp.2 1 _ _ rfl rfl rfl); clear hp; go_simp; try (with_reducible rfl))
               simp only [Act.put, List.setIfInBounds_toArray, List.set_cons_zero, List.set_cons_succ]))
          refine Up.wpUp_end ?_
          intro w6 hb6 _
          go_wp2
          go_quiet (fail)
          go_wp2
          go_ret3
          rw [HE.out]
          refine ⟨a', c', ?_, ((hB2.stays hb).stays hb6).stays (below_drewN (Below.refl _ _) _), below_then (below_then hb hb6) (below_drewN (Below.refl _ _) _)⟩
          rw [List.length_drop]; rfl
        · have hE3 : leadL 0 0 xs = (0, 0, 3) := (HLC.out (by omega)).resolve_left hE
          obtain ⟨L, hL⟩ : ∃ L, leb m2 = L := ⟨_, rfl⟩
          have hLr := leb_rng m2
          rw [hL] at hiff hLr
          have hTr : ∀ y ∈ T, 0 ≤ y ∧ y ≤ 255 := hB1.rng
          have hne : ((strOfNums L).toList == (strOfNums T).toList) = false := by
            rw [beq_eq_false_iff_ne]
            intro h
            refine hE (hiff.1 (strOfNums_inj hLr hTr ?_))
            rw [ByteArray.toList_eq, ByteArray.toList_eq] at h
            exact ByteArray.ext (Array.toList_inj.1 h)
          have hc1 : Hid (∀ u : World, Calls Try.prog 12 #[.slice none 0 0, .int .u64 m2] u fun e w' => ∃ v, e = .returned v ∧ Below u.heap.size u w' ∧ slB L v w') :=
            fun u => calls_slB (rput_bs none 0 0 [] m2 hm2l u L (by simpa using hL) rfl (Bs.empty u) (by simp))
          have HE : Hid (takeL xs = (0, [], 3)) := by show _ = _; unfold takeL; rw [hE3]; rfl
          clear hiff hE HMC HLC hE3 hL hLr hTr
          go_wp2
          refine Up.wp_region_up (Up.tell [(1, slB L)]) (by kernel_rfl) (by kernel_rfl) (Up.tell_steady _ (by
            intro p hp
            rw [List.mem_singleton.1 hp]; exact slB_steady _)) ?_
          repeat (first
            | (apply Up.wpUp_pure
               case hw => rfl
               case hψ => rfl
               case hv => (intro w1 hp; have hS1 := hS.out w1 hp.1; clear hp; go_simp; try (with_reducible rfl))
               simp only [Act.put, List.setIfInBounds_toArray, List.set_cons_zero, List.set_cons_succ]))
          refine Up.wpUp_call _ 12 #[.slice none 0 0, .int .u64 m2] (by rfl) (by rfl) (fun w1 => by go_simp) (fun w1 hp => hc1.out w1) ?_
          rintro v ⟨u, _, hf⟩
          obtain ⟨a6, c6, rfl, _⟩ := hf 1 v _ rfl rfl
          clear hf
          simp only [Act.put, List.setIfInBounds_toArray, List.set_cons_zero, List.set_cons_succ]
          repeat (first
            | (apply Up.wpUp_pure
               case hw => rfl
               case hψ => rfl
               case hv => (intro w1 hp; have hS1 := hS.out w1 hp.1; clear hp; go_simp; try (with_reducible rfl))
               simp only [Act.put, List.setIfInBounds_toArray, List.set_cons_zero, List.set_cons_succ])
            | (apply Up.wpUp_pure
               case hw => rfl
               case hψ => rfl
               case hv => (intro w1 hp; have hc := conv_of (hp.2 1 _ _ rfl rfl rfl); clear hp; go_simp; try (with_reducible rfl))
               simp only [Act.put, List.setIfInBounds_toArray, List.set_cons_zero, List.set_cons_succ]))
          refine Up.wpUp_end ?_
          intro w6 hb6 _
          go_wp2
          go_ret3
          rw [HE.out]
          exact ⟨none, 0, rfl, Bs.empty _, below_then hb hb6⟩
    · by_cases hk10 : k < xs.length
      · have hkk : k = 10 := by omega
        have h3 := hsp.out hkk
        have HE : Hid (takeL xs = (0, [], 3)) := by show _ = _; unfold takeL; rw [h3]; rfl
        clear h3 hsp hm
        subst hkk
        go_wp2
        go_ret3
        rw [HE.out]
        exact ⟨none, 0, rfl, Bs.empty _, hb⟩
      · have hkk : k = xs.length := by omega
        by_cases h9 : k ≤ 9
        · have h2 := (hm.out h9).2
          rw [List.drop_eq_nil_of_le (by omega), leadL_end] at h2
          have HE : Hid (takeL xs = (0, [], 2)) := by show _ = _; unfold takeL; rw [h2]; rfl
          clear h2 hsp hm hkk
          go_wp2
          go_ret3
          rw [HE.out]
          exact ⟨none, 0, rfl, Bs.empty _, hb⟩
        · have h3 := hsp.out (by omega)
          have HE : Hid (takeL xs = (0, [], 3)) := by show _ = _; unfold takeL; rw [h3]; rfl
          clear h3 hsp hm hkk
          go_wp2
          go_ret3
          rw [HE.out]
          exact ⟨none, 0, rfl, Bs.empty _, hb⟩
end Go.Proofs.Ytiofpkkbejnjcaa
