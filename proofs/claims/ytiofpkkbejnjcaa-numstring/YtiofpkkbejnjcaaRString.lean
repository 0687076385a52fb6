/-
  The walk over the document's own TakeString.
-/
import Derived.Test.YtiofpkkbejnjcaaRTake
namespace Go.Proofs.Ytiofpkkbejnjcaa
set_option linter.unusedSimpArgs false
set_option linter.unusedVariables false
open Go.RowKit

theorem Parts.later {w : World} (w1 : World) (k : Nat) (h : Below w.heap.size w w1) : Parts w (.returned (.tuple #[.slice none 0 0, .slice none 0 0, .int .i64 k])) w1 ([], [], k) :=
  ⟨none, 0, none, 0, rfl, Bs.empty _, Bs.empty _, h⟩

theorem rtakeString_any (a : Option Addr) (c : Nat) (xs : List Int) (most : Int) (w : World) (hB : Bs w a c xs) (hlen : xs.length ≤ 1000000) (hm : most ≤ 9223372036854775807) :
    Calls Try.prog 22 #[.slice a xs.length c, .int .i64 most] w fun e w' => Parts w e w' (stringL xs most) := by
  have hl := rtake_any a c xs w hB hlen
  have hn64 : (takeL xs).2.2 = 0 → (takeL xs).1 < 18446744073709551616 ∧ (takeL xs).2.1.length ≤ 1000000 := by
    intro h
    unfold takeL at h ⊢
    obtain ⟨⟨n, s, z⟩, hr⟩ : ∃ r, leadL 0 0 xs = r := ⟨_, rfl⟩
    rw [hr] at h ⊢
    refine ⟨((lead_facts hB.rng hr).1 h).2.1, ?_⟩
    simp only at h ⊢
    rw [if_pos h]; simp; omega
  unfold stringL
  obtain ⟨⟨n, rest, z⟩, hr⟩ : ∃ r, takeL xs = r := ⟨_, rfl⟩
  rw [hr] at hl hn64 ⊢
  simp only at hl hn64 ⊢
  by_cases hz : z = 0
  · subst hz
    obtain ⟨hn, hrl⟩ := hn64 rfl
    rw [if_neg (by simp)]
    clear hr hn64
    by_cases h1 : most < 0
    · rw [if_pos (.inl h1)]
      go_enter Try.func22, Try.ntmps22
      go_wp2_with (go_at_call 16; go_must (refine hl.mono ?_); rintro e w1 ⟨a1, c1, rfl, hB1, hb1⟩)
      go_ret3
      exact Parts.later _ 4 hb1
    · by_cases h2 : most < n
      · rw [if_pos (.inr h2)]
        go_enter Try.func22, Try.ntmps22
        go_wp2_with (go_at_call 16; go_must (refine hl.mono ?_); rintro e w1 ⟨a1, c1, rfl, hB1, hb1⟩)
        go_ret3
        exact Parts.later _ 4 hb1
      · rw [if_neg (by omega)]
        unfold cutL
        by_cases hk : n ≤ rest.length
        · rw [if_pos hk]
          go_enter Try.func22, Try.ntmps22
          go_wp2_with (go_at_call 16; go_must (refine hl.mono ?_); rintro e w1 ⟨a1, c1, rfl, hB1, hb1⟩)
          obtain ⟨hrun1, hB2⟩ := hB1.upto (P := Try.prog) 22 5 Try.underlying22 Try.size5 Try.elem22 n hk
          obtain ⟨a', c', hrun2, hB3⟩ := hB1.from (P := Try.prog) 22 5 Try.underlying22 Try.size5 Try.elem22 n hk
          have hs1 : ∀ w', (Instr.slice 22 (.slice a1 rest.length c1) none (some (.int .u64 n)) none).run Try.prog w' = .ok (.slice a1 n c1) w' := fun w' => hrun1 w' _ .u64 n rfl
          have hs2 : ∀ w', (Instr.slice 22 (.slice a1 rest.length c1) (some (.int .u64 n)) none none).run Try.prog w' = .ok (.slice a' (rest.length - n) c') w' := fun w' => hrun2 w' _ .u64 n rfl rfl
          clear hrun1 hrun2
          go_quiet (fail)
          go_wp2
          go_ret3
          refine ⟨a1, c1, a', c', ?_, hB2.stays (below_drewN (Below.refl _ _) _), hB3.stays (below_drewN (Below.refl _ _) _), below_then hb1 (below_drewN (Below.refl _ _) _)⟩
          rw [List.length_take, List.length_drop, Nat.min_eq_left hk]; rfl
        · rw [if_neg hk]
          go_enter Try.func22, Try.ntmps22
          go_wp2_with (go_at_call 16; go_must (refine hl.mono ?_); rintro e w1 ⟨a1, c1, rfl, hB1, hb1⟩)
          go_ret3
          exact Parts.later _ 2 hb1
  · rw [if_pos hz]
    clear hr hn64
    go_enter Try.func22, Try.ntmps22
    go_wp2_with (go_at_call 16; go_must (refine hl.mono ?_); rintro e w1 ⟨a1, c1, rfl, hB1, hb1⟩)
    go_ret3
    exact Parts.later _ z hb1
end Go.Proofs.Ytiofpkkbejnjcaa
