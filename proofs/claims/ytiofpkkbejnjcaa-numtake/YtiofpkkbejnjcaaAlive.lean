/-
  The walk over the laws' question that is asked of every input: it is answered by true.
-/
import Derived.Test.YtiofpkkbejnjcaaWhole
namespace Go.Proofs.Ytiofpkkbejnjcaa
set_option linter.unusedSimpArgs false
set_option linter.unusedVariables false
open Go.RowKit

theorem conv9 {w : World} {a : Option Addr} {c : Nat} {xs : List Int} (h : Bs w a c xs) (n : Nat) (hn : n = xs.length) : (convert 22 9 (.slice a n c)).run Try.prog w = .ok (.string (strOfNums xs)) w :=
  h.conv n hn 22 5 Try.underlying22 Try.underlying5 9 Try.underlying9

theorem two_bs (x y : Int) (hx : 0 ≤ x ∧ x ≤ 255) (hy : 0 ≤ y ∧ y ≤ 255) (w : World) : Bs (w.alloc (.cells #[.int .u8 x, .int .u8 y] 5)) (some ⟨w.heap.size, 0, none⟩) 2 [x, y] := by
  refine ⟨fun z hz => ?_, by simp, by decide, by simp, .inr ⟨_, _, rfl, fun i hi => ?_⟩⟩
  · simp only [List.mem_cons, List.not_mem_nil, or_false] at hz
    rcases hz with rfl | rfl <;> assumption
  · have : i = 0 ∨ i = 1 := by simp at hi; omega
    rcases this with rfl | rfl <;> simp

theorem leb300 : leb 300 = [172, 2] := by rw [leb_great (by decide), leb_small (by decide)]; rfl

theorem alive_any (w : World) : Calls Try.prog 8 #[] w fun e w' => e = .returned (.bool true) ∧ Below w.heap.size w w' := by
  have hp := put_any none 0 [] 300 (by decide) w (Bs.empty w) (by simp)
  rw [List.nil_append, leb300] at hp
  have hs : strOfNums [172, 2] = { data := #[172, 2] } := rfl
  have ht : takeL [128, 0] = (0, [], 3) := by decide
  go_enter Try.func8, Try.ntmps8
  go_wp2_with (first
    | (go_at_call 9; go_must (refine hp.mono ?_); rintro e w1 ⟨a1, c1, rfl, hB1, hb1⟩)
    | (go_at_call 15; go_must (refine (take_any _ 2 [128, 0] _ (two_bs 128 0 (by decide) (by decide) w1) (by simp)).mono ?_); rw [ht]; rintro e w2 ⟨a2, c2, rfl, hB2, hb2⟩; have hc := conv9 ((hB1.stays ((Below.refl _ _).alloc (Nat.le_refl _) _)).stays hb2) 2 rfl))
  go_ret
  exact ⟨rfl, below_then (hb1.alloc hb1.size _) hb2⟩
end Go.Proofs.Ytiofpkkbejnjcaa
