/-
  The walks over num.Take and num.TakeString.
-/
import Derived.Test.YtiofpkkbejnjcaaCut
namespace Go.Proofs.Ytiofpkkbejnjcaa
set_option linter.unusedSimpArgs false
set_option linter.unusedVariables false
open Go.RowKit

theorem take_any (a : Option Addr) (c : Nat) (xs : List Int) (w : World) (hB : Bs w a c xs) (hlen : xs.length ≤ 1000000) :
    Calls Try.prog 15 #[.slice a xs.length c] w fun e w' => ∃ a1 c1, e = .returned (.tuple #[.int .u64 (takeL xs).1, .slice a1 (takeL xs).2.1.length c1, .int .i64 (takeL xs).2.2]) ∧ Bs w' a1 c1 (takeL xs).2.1 ∧ Below w.heap.size w w' := by
  have hl := lead_any a c xs w hB hlen
  unfold takeL
  obtain ⟨⟨n, s, z⟩, hr⟩ : ∃ r, leadL 0 0 xs = r := ⟨_, rfl⟩
  obtain ⟨hf1, hf2⟩ := lead_facts hB.rng hr
  rw [hr] at hl ⊢
  simp only [leadV] at hl ⊢
  by_cases hz : z = 0
  · subst hz
    obtain ⟨hs, hn, hs0⟩ := hf1 rfl
    simp only [if_true]
    obtain ⟨a', c', hrun2, hB2⟩ := hB.from (P := Try.prog) 22 5 Try.underlying22 Try.size5 Try.elem22 s hs
    have hs2 : ∀ w', (Instr.slice 22 (.slice a xs.length c) (some (.int .i64 s)) none none).run Try.prog w' = .ok (.slice a' (xs.length - s) c') w' := fun w' => hrun2 w' _ .i64 s rfl rfl
    clear hrun2 hf1 hf2 hr
    go_enter Try.func15, Try.ntmps15
    go_wp2_with (first
      | (go_at_call 25; go_must (refine hl.mono ?_); rintro e w1 ⟨rfl, rfl⟩)
      | (go_at_call 26; go_must (refine (fresh_at a' c' (xs.length - s) (xs.drop s) _ (by simp) hB2 (by simp; omega)).mono ?_); rintro e w2 ⟨a2, c2, rfl, hF2, hb2⟩))
    go_ret3
    exact ⟨a2, c2, by rw [List.length_drop]; rfl, hF2, hb2⟩
  · have hn := hf2 hz
    subst hn
    rw [if_neg hz]
    clear hr hf1 hf2
    go_enter Try.func15, Try.ntmps15
    go_wp2_with (go_at_call 25; go_must (refine hl.mono ?_); rintro e w1 ⟨rfl, rfl⟩)
    go_ret3
    exact ⟨none, 0, rfl, Bs.empty _, Below.refl _ _⟩

theorem takeString_any (a : Option Addr) (c : Nat) (xs : List Int) (most : Int) (w : World) (hB : Bs w a c xs) (hlen : xs.length ≤ 1000000) (hm : most ≤ 9223372036854775807) :
    Calls Try.prog 21 #[.slice a xs.length c, .int .i64 most] w fun e w' => Parts w e w' (stringL xs most) := by
  have hl := lead_any a c xs w hB hlen
  unfold stringL takeL
  obtain ⟨⟨n, s, z⟩, hr⟩ : ∃ r, leadL 0 0 xs = r := ⟨_, rfl⟩
  obtain ⟨hf1, hf2⟩ := lead_facts hB.rng hr
  rw [hr] at hl ⊢
  simp only [leadV] at hl ⊢
  by_cases hz : z = 0
  · subst hz
    obtain ⟨hs, hn, hs0⟩ := hf1 rfl
    rw [if_neg (by simp)]
    simp only [if_true]
    obtain ⟨a', c', hrun2, hB2⟩ := hB.from (P := Try.prog) 22 5 Try.underlying22 Try.size5 Try.elem22 s hs
    have hs2 : ∀ w', (Instr.slice 22 (.slice a xs.length c) (some (.int .i64 s)) none none).run Try.prog w' = .ok (.slice a' (xs.length - s) c') w' := fun w' => hrun2 w' _ .i64 s rfl rfl
    clear hrun2 hf1 hf2 hr
    by_cases h1 : most < 0
    · rw [if_pos (.inl h1)]
      go_enter Try.func21, Try.ntmps21
      go_wp2_with (go_at_call 25; go_must (refine hl.mono ?_); rintro e w1 ⟨rfl, rfl⟩)
      go_ret3
      exact Parts.nothing _ 4
    · by_cases h2 : most < n
      · rw [if_pos (.inr h2)]
        go_enter Try.func21, Try.ntmps21
        go_wp2_with (go_at_call 25; go_must (refine hl.mono ?_); rintro e w1 ⟨rfl, rfl⟩)
        go_ret3
        exact Parts.nothing _ 4
      · rw [if_neg (by omega)]
        go_enter Try.func21, Try.ntmps21
        go_wp2_with (first
          | (go_at_call 25; go_must (refine hl.mono ?_); rintro e w1 ⟨rfl, rfl⟩)
          | (go_at_call 27; go_must (refine (cut_any a' c' (xs.length - s) (xs.drop s) n _ (by simp) hB2 (by simp; omega)).mono ?_); rintro e w2 ⟨a1, c1, a2, c2, rfl, h1, h2, h3⟩))
        go_ret3
        exact ⟨a1, c1, a2, c2, rfl, h1, h2, h3⟩
  · rw [if_pos hz]
    clear hr hf1 hf2
    go_enter Try.func21, Try.ntmps21
    go_wp2_with (go_at_call 25; go_must (refine hl.mono ?_); rintro e w1 ⟨rfl, rfl⟩)
    go_ret3
    exact Parts.nothing _ z
end Go.Proofs.Ytiofpkkbejnjcaa
